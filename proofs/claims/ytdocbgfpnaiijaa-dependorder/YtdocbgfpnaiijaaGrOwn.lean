/-
  The statements' own copy of a grammar (topiaristkeep.Own): it comes to the same grammar, in rows of its own.
-/
import Derived.Test.YtdocbgfpnaiijaaOwnLib2
import Derived.Test.YtdocbgfpnaiijaaGrTop
import Derived.Deep.DeepCutAuto
namespace Go.Proofs.Ytdocbgfpnaiijaa
open Go.RowKit

theorem CellsAt.src {P : Program} {t e' : TypeId} {w : World} {ao : Option Addr} {vs : List Value} {c : Nat} (hk : P.underlying t = some (.slice e')) (h : CellsAt w.heap.size w ao vs) (h1 : ∀ u ∈ vs, u.oneCell' = true) : Src P 1 t (.slice ao vs.length c) vs.length vs w := by
  cases ao with
  | none =>
    have e : vs = [] := by
      cases vs with
      | nil => rfl
      | cons v r => obtain ⟨b, o, h, _⟩ := h 0 (by simp); cases h
    subst e
    exact Src.ofNil w hk c
  | some ad =>
    refine Src.ofSlice w hk ad _ c vs (by simp) (fun j u hj => ?_) h1
    have hl := (List.getElem?_eq_some_iff.1 hj).1
    obtain ⟨b, o, e, _, _, hc⟩ := h j hl
    cases e
    rw [addr_off_add, hc]
    rw [List.getElem?_eq_getElem hl] at hj
    exact hj

theorem wp_copy_strs {o : Oper} {a : Act} {w : World} {K : Act → World → Prop} {Q : Exit → Act → World → Prop} (s x : Operand) (ho : o.op = .call { callee := .builtin .append, args := #[s, x], argTypes := #[22, 22] })
    (N : Nat) (v : Value) (hs : a.eval s = v) (hE : Empty N 9 v w) (ao : Option Addr) (c : Nat) (ss : List ByteArray) (hx : a.eval x = .slice ao ss.length c) (hS : StrsAt w.heap.size w ao ss) (hl : ss.length ≤ 4000)
    (h : ∀ v' w', Lat w w' → OwnStrs N w' v' ss → (0 < ss.length → v'.ownBlock = some w.heap.size) → K (a.put o.dst v') w') : o.wp Try.prog a w K Q := by
  obtain ⟨iA, hi, hz0, hz1, hz2⟩ := info_parts Try.infoStr
  have hsrc := CellsAt.src (P := Try.prog) (c := c) Try.underlying22 hS (fun u hu => by obtain ⟨x, _, rfl⟩ := List.mem_map.1 hu; rfl)
  rw [List.length_map] at hsrc
  exact wp_copy s x 22 ho 9 iA _ 1 16 Try.underlying22 hi hz0 hz1 hz2 rfl N v hs hE _ ss.length (ss.map .string) hx hsrc (by unfold maxLen; omega) (by omega) h
theorem wp_copy_ints {o : Oper} {a : Act} {w : World} {K : Act → World → Prop} {Q : Exit → Act → World → Prop} (s x : Operand) (ho : o.op = .call { callee := .builtin .append, args := #[s, x], argTypes := #[29, 29] })
    (N : Nat) (v : Value) (hs : a.eval s = v) (hE : Empty N 3 v w) (ao : Option Addr) (c : Nat) (xs : List Int) (hx : a.eval x = .slice ao xs.length c) (hS : IntsAt w.heap.size w ao xs) (hl : xs.length ≤ 4000)
    (h : ∀ v' w', Lat w w' → OwnInts N w' v' xs → (0 < xs.length → v'.ownBlock = some w.heap.size) → K (a.put o.dst v') w') : o.wp Try.prog a w K Q := by
  obtain ⟨iA, hi, hz0, hz1, hz2⟩ := info_parts Try.infoIn
  have hsrc := CellsAt.src (P := Try.prog) (c := c) Try.underlying29 hS (fun u hu => by obtain ⟨x, _, rfl⟩ := List.mem_map.1 hu; rfl)
  rw [List.length_map] at hsrc
  exact wp_copy s x 29 ho 3 iA _ 1 8 Try.underlying29 hi hz0 hz1 hz2 rfl N v hs hE _ xs.length (xs.map (.int .i64)) hx hsrc (by unfold maxLen; omega) (by omega) h

theorem OwnStrs.shape {N : Nat} {w : World} {v : Value} {ss : List ByteArray} (h : OwnStrs N w v ss) : ∃ ao c, v = .slice ao ss.length c := by
  obtain ⟨ao, c, e, _⟩ := OwnStrs.read h
  exact ⟨ao, c, e⟩
theorem OwnInts.shape {N : Nat} {w : World} {v : Value} {ss : List Int} (h : OwnInts N w v ss) : ∃ ao c, v = .slice ao ss.length c := by
  obtain ⟨ao, c, e, _⟩ := OwnInts.read h
  exact ⟨ao, c, e⟩

theorem own_ne {w : World} {N : Nat} {e t : TypeId} {z : Nat} {v : Value} {n : Nat} {xs : List Value} {b : Nat} {cs : Array Value} {fr : Nat × Nat} (h : w.ownsRow N e z v n xs) (hb : w.heap[b]? = some (.cells cs t fr)) (hne : e ≠ t) : v.ownBlock ≠ some b := by
  intro hv
  rcases h.2 with ⟨rfl, _⟩ | ⟨g, cap, cur, rfl, _, hg, _⟩
  · cases hv
  · have : g = b := by simpa [Value.ownBlock] using hv
    subst this
    rw [hg] at hb
    cases hb
    exact hne rfl

theorem gset {w : World} {b : Nat} {p q r x y z : Value} {t : TypeId} (h : w.heap[b]? = some (.cells #[p, q, r] t (0, 0))) : (((w.setCell ⟨b, 0, none⟩ x).setCell ⟨b, 1, none⟩ y).setCell ⟨b, 2, none⟩ z).heap[b]? = some (.cells #[x, y, z] t (0, 0)) := by
  simp [World.setCell, Array.getElem?_modify, h]
theorem gset1 {w : World} {b : Nat} {x y r z : Value} {t : TypeId} (h : w.heap[b]? = some (.cells #[x, y, r] t (0, 0))) : (w.setCell ⟨b, 2, none⟩ z).heap[b]? = some (.cells #[x, y, z] t (0, 0)) := by
  simp [World.setCell, Array.getElem?_modify, h]

/-- what holds of memory while Own goes -/
structure OInv (w wr : World) (g : Gr.Gm) (A : GA) (b : Nat) (x y v : Value) (k : Nat) : Prop where
  below : Below w.heap.size w wr
  lt : w.heap.size + 2 ≤ b ∧ b < wr.heap.size
  gb : wr.heap[w.heap.size]? = some (.cells #[.slice A.ta g.terms.length A.tc, .slice A.na g.names.length A.nc, .slice A.ra g.rules.length A.rc] 25 (0, 0))
  rb : wr.heap[w.heap.size + 1]? = some (.cells #[.slice none 0 0, .slice none 0 0, .slice none 0 0] 25 (0, 0))
  ab : wr.heap[b]? = some (.cells #[x, y, v] 25 (0, 0))
  ox : OwnStrs (w.heap.size + 2) wr x g.terms
  oy : OwnStrs (w.heap.size + 2) wr y g.names
  ov : OwnRls (w.heap.size + 2) wr v (g.rules.take k)

theorem own_rls_ne {w : World} {N : Nat} {v : Value} {rs : List Gr.Rl} {b : Nat} {cs : Array Value} {t : TypeId} {fr : Nat × Nat} (h : OwnRls N w v rs) (hb : w.heap[b]? = some (.cells cs t fr)) (hne : 31 ≠ t) : v.ownBlock ≠ some b := by
  obtain ⟨ps, _, h2, _⟩ := h
  exact own_ne h2 hb hne

theorem OInv.later {w wr w1 : World} {g : Gr.Gm} {A : GA} {b : Nat} {x y v : Value} {k : Nat} (h : OInv w wr g A b x y v k) (hb : Below wr.heap.size wr w1) : OInv w w1 g A b x y v k where
  below := h.below.trans (hb.mono h.below.size)
  lt := ⟨h.lt.1, Nat.lt_of_lt_of_le h.lt.2 hb.size⟩
  gb := by rw [hb.block _ (by have := h.lt; omega)]; exact h.gb
  rb := by rw [hb.block _ (by have := h.lt; omega)]; exact h.rb
  ab := by rw [hb.block _ h.lt.2]; exact h.ab
  ox := ownsRow_below h.ox hb
  oy := ownsRow_below h.oy hb
  ov := h.ov.below hb

theorem OInv.grown {w wr w1 : World} {g : Gr.Gm} {A : GA} {b : Nat} {x y v : Value} {k : Nat} (h : OInv w wr g A b x y v k) (hg : wr.grownBy w1 v.ownBlock) (q : Nat) (hlt : q ≤ b) {cs : Array Value} {fr : Nat × Nat} (hq : wr.heap[q]? = some (.cells cs 25 fr)) : w1.heap[q]? = wr.heap[q]? :=
  hg.block q (by have := h.lt; omega) (fun e => own_rls_ne h.ov hq (by decide) e.symm)

theorem OInv.push {w wr w1 : World} {g : Gr.Gm} {A : GA} {b : Nat} {x y v v' : Value} {k k' : Nat} (h : OInv w wr g A b x y v k) (hg : wr.grownBy w1 v.ownBlock) (ho : OwnRls (w.heap.size + 2) w1 v' (g.rules.take k')) : OInv w (w1.setCell ⟨b, 2, none⟩ v') g A b x y v' k' := by
  have hb : w1.heap[b]? = some (.cells #[x, y, v] 25 (0, 0)) := (h.grown hg b (Nat.le_refl _) h.ab).trans h.ab
  have hs : ∀ q, q ≠ b → (w1.setCell ⟨b, 2, none⟩ v').heap[q]? = w1.heap[q]? := fun q hq => Below.heap_setCell _ _ _ _ hq
  obtain ⟨ps, _, hov, _⟩ := h.ov
  have hlt := h.lt
  refine ⟨?_, ⟨h.lt.1, ?_⟩, ?_, ?_, gset1 hb, ?_, ?_, ?_⟩
  · exact (h.below.grown hg h.below.size (fun q hq => by have := (hov.lt q hq).1; omega)).setCell (by show w.heap.size ≤ b; omega) _
  · rw [size_setCell]; exact Nat.lt_of_lt_of_le h.lt.2 hg.size
  · rw [hs _ (by omega), h.grown hg _ (by omega) h.gb]; exact h.gb
  · rw [hs _ (by omega), h.grown hg _ (by omega) h.rb]; exact h.rb
  · have h2 := World.ownsRow.kept h.ox hg (row_apart h.ox hov (by decide))
    exact ownsRow_setCell_other h2 (own_ne h2 hb (by decide)) _
  · have h2 := World.ownsRow.kept h.oy hg (row_apart h.oy hov (by decide))
    exact ownsRow_setCell_other h2 (own_ne h2 hb (by decide)) _
  · obtain ⟨qs, e1, e2, e3⟩ := ho
    exact ⟨qs, e1, ownsRow_setCell_other e2 (own_ne e2 hb (by decide)) _, fun p hp => ownsRow_setCell_other (e3 p hp) (own_ne (e3 p hp) hb (by decide)) _⟩

/-- a block of three cells, a grammar's -/
def GBlk (N b : Nat) (w : World) (x y z : Value) : Prop := N ≤ b ∧ w.heap[b]? = some (.cells #[x, y, z] 25 (0, 0))

theorem GBlk.kept {N b : Nat} {w w' : World} {x y z : Value} (h : GBlk N b w x y z) (hL : Lat w w') : GBlk N b w' x y z :=
  ⟨h.1, by rw [hL.block _ (Array.getElem?_eq_some_iff.1 h.2).1]; exact h.2⟩

set_option maxRecDepth 100000 in
set_option maxHeartbeats 1600000 in
theorem own_is (g : Gr.Gm) (A : GA) (w : World) (h1 : g.terms.length ≤ 4000) (h2 : g.names.length ≤ 4000) (h3 : g.rules.length ≤ 1000) (h4 : ∀ r ∈ g.rules, r.2.length ≤ 4000) (h : GmAt w.heap.size w g A) :
    Calls Try.prog 16 #[.agg (gmCells g A)] w fun e w' => ∃ A', e = .returned (.agg (gmCells g A')) ∧ Hid (GmOwn w.heap.size w' g A') ∧ Hid (Below w.heap.size w w') ∧ Hid (0 < g.names.length → (Value.slice A'.na g.names.length A'.nc).ownBlock ≠ (Value.slice A'.ta g.terms.length A'.tc).ownBlock) := by
  obtain ⟨ta, tc, na, nc, ra, rc⟩ := A
  have HG : Hid (GmAt w.heap.size w g ⟨ta, tc, na, nc, ra, rc⟩) := h
  have H4 : Hid _ := h4
  clear h h4
  simp only [gmCells]
  go_enter Try.func16, Try.ntmps16
  go_wp2_with fail
  have hB : Hid (Below w.heap.size w ((w.alloc (Obj.cells #[.slice ta g.terms.length tc, .slice na g.names.length nc, .slice ra g.rules.length rc] 25)).alloc (Obj.cells #[.slice none 0 0, .slice none 0 0, .slice none 0 0] 25))) := ((Below.refl _ w).alloc (Nat.le_refl _) _).alloc (by simp) _
  have b0 : Hid (((w.alloc (Obj.cells #[.slice ta g.terms.length tc, .slice na g.names.length nc, .slice ra g.rules.length rc] 25)).alloc (Obj.cells #[.slice none 0 0, .slice none 0 0, .slice none 0 0] 25)).heap[w.heap.size]? = some (.cells #[.slice ta g.terms.length tc, .slice na g.names.length nc, .slice ra g.rules.length rc] 25 (0, 0))) := by
    show _ = _; rw [Below.heap_alloc _ _ _ (by simp)]; exact heap_alloc_new w _
  have b1 : Hid (((w.alloc (Obj.cells #[.slice ta g.terms.length tc, .slice na g.names.length nc, .slice ra g.rules.length rc] 25)).alloc (Obj.cells #[.slice none 0 0, .slice none 0 0, .slice none 0 0] 25)).heap[w.heap.size + 1]? = some (.cells #[.slice none 0 0, .slice none 0 0, .slice none 0 0] 25 (0, 0))) := by
    show _ = _
    have := heap_alloc_new (w.alloc (Obj.cells #[.slice ta g.terms.length tc, .slice na g.names.length nc, .slice ra g.rules.length rc] 25)) (Obj.cells #[.slice none 0 0, .slice none 0 0, .slice none 0 0] 25)
    simpa using this
  have hWs : Hid (((w.alloc (Obj.cells #[.slice ta g.terms.length tc, .slice na g.names.length nc, .slice ra g.rules.length rc] 25)).alloc (Obj.cells #[.slice none 0 0, .slice none 0 0, .slice none 0 0] 25)).heap.size = w.heap.size + 2) := by show _ = _; simp
  generalize ((w.alloc (Obj.cells #[.slice ta g.terms.length tc, .slice na g.names.length nc, .slice ra g.rules.length rc] 25)).alloc (Obj.cells #[.slice none 0 0, .slice none 0 0, .slice none 0 0] 25)) = W at *
  refine wp_region_lat [.fact (Empty (w.heap.size + 2) 9), .val (.pointer (some ⟨w.heap.size, 0, none⟩)), .val (.slice ta g.terms.length tc), .fact (fun v w' => OwnStrs (w.heap.size + 2) w' v g.terms), .fact (Empty (w.heap.size + 2) 9), .val (.pointer (some ⟨w.heap.size, 1, none⟩)), .val (.slice na g.names.length nc), .rel (fun vf v w' => OwnStrs (w.heap.size + 2) w' v g.names ∧ (0 < g.names.length → v.ownBlock ≠ (vf 3).ownBlock)), .rel (fun vf v w' => ∃ x y, v = .agg #[x, y, .slice none 0 0] ∧ x = vf 3 ∧ y = vf 7 ∧ OwnStrs (w.heap.size + 2) w' x g.terms ∧ OwnStrs (w.heap.size + 2) w' y g.names), .fact (fun v w' => ∃ b, v = .pointer (some ⟨b, 0, none⟩) ∧ GBlk (w.heap.size + 2) b w' (.slice none 0 0) (.slice none 0 0) (.slice none 0 0))] [_] (by kernel_rfl) (by kernel_rfl) rfl ?kept ?walk
  case kept => exact ⟨Empty.kept, ownsRow_kept, Empty.kept, fun vf v w1 w2 hL ⟨h1, h2⟩ => ⟨ownsRow_kept _ _ _ hL h1, h2⟩, fun vf vf' v w hv ⟨h1, h2⟩ => ⟨h1, by rw [← hv 3 ⟨_, ⟨3, .chain⟩, rfl, by simp, rfl, rfl⟩]; exact h2⟩,
    fun vf v w1 w2 hL ⟨x, y, e, e1, e2, h1, h2⟩ => ⟨x, y, e, e1, e2, ownsRow_kept _ _ _ hL h1, ownsRow_kept _ _ _ hL h2⟩, fun vf vf' v w hv ⟨x, y, e, e1, e2, h⟩ => ⟨x, y, e, by rw [← hv 3 ⟨_, ⟨3, .data⟩, rfl, by simp, rfl, rfl⟩]; exact e1, by rw [← hv 7 ⟨_, ⟨7, .data⟩, rfl, by simp, rfl, rfl⟩]; exact e2, h⟩, fun v w1 w2 hL ⟨b, e, h⟩ => ⟨b, e, h.kept hL⟩, trivial⟩
  case walk =>
    have HS : Hid (∀ w1 : World, Lat W.drew w1 → Below w.heap.size w w1 ∧ w.heap.size + 2 ≤ w1.heap.size ∧ Below W.heap.size W w1) := fun w1 hL => by
      have h := hL.of_drew
      exact ⟨hB.out.trans (Below.mono h hB.out.size), by have := h.size; rw [hWs.out] at this; exact this, h⟩
    refine wpFacts_fact (by rfl) (fun w1 hL hd K hK => ?_) (fun v0 => ?_)
    · go_simp
      exact hK _ _ (Below.alloc (Below.refl _ _) (Nat.le_refl _) _) (Empty.new _ _ _ (HS.out w1 hL).2.1)
    refine wpFacts_norm (by simp only [Act.put, List.setIfInBounds_toArray, List.set_cons_zero, List.set_cons_succ]; rfl) (by simp only [List.nil_append]; rfl) ?_
    refine wpFacts_val (by rfl) (fun w1 hL hd K hK => ?_) ?_
    · go_simp
      exact hK _ (Lat.refl _)
    refine wpFacts_norm (by simp only [Act.put, List.setIfInBounds_toArray, List.set_cons_zero, List.set_cons_succ]; rfl) (by simp only [List.cons_append, List.nil_append]; rfl) ?_
    refine wpFacts_val (by rfl) (fun w1 hL hd K hK => ?_) ?_
    · have c0 := (cells_three_z (((HS.out w1 hL).2.2.block _ (by rw [hWs.out]; omega)).trans b0.out)).1
      go_simp
      exact hK _ (Lat.refl _)
    refine wpFacts_norm (by simp only [Act.put, List.setIfInBounds_toArray, List.set_cons_zero, List.set_cons_succ]; rfl) (by simp only [List.cons_append, List.nil_append]; rfl) ?_
    refine wpFacts_fact (by rfl) (fun w1 hL hd K hK => ?_) (fun v3 => ?_)
    · exact wp_copy_strs (.tmp 5) (.tmp 7) rfl (w.heap.size + 2) v0 rfl hd.1 ta tc g.terms rfl (HG.out.next (HS.out w1 hL).1).terms h1 (fun v' w' h1 h2 _ => hK v' w' h1 h2)
    refine wpFacts_norm (by simp only [Act.put, List.setIfInBounds_toArray, List.set_cons_zero, List.set_cons_succ]; rfl) (by simp only [List.cons_append, List.nil_append]; rfl) ?_
    refine wpFacts_fact (by rfl) (fun w1 hL hd K hK => ?_) (fun v4 => ?_)
    · go_simp
      exact hK _ _ (Below.alloc (Below.refl _ _) (Nat.le_refl _) _) (Empty.new _ _ _ (HS.out w1 hL).2.1)
    refine wpFacts_norm (by simp only [Act.put, List.setIfInBounds_toArray, List.set_cons_zero, List.set_cons_succ]; rfl) (by simp only [List.cons_append, List.nil_append]; rfl) ?_
    refine wpFacts_val (by rfl) (fun w1 hL hd K hK => ?_) ?_
    · go_simp
      exact hK _ (Lat.refl _)
    refine wpFacts_norm (by simp only [Act.put, List.setIfInBounds_toArray, List.set_cons_zero, List.set_cons_succ]; rfl) (by simp only [List.cons_append, List.nil_append]; rfl) ?_
    refine wpFacts_val (by rfl) (fun w1 hL hd K hK => ?_) ?_
    · have c1 := (cells_three_z (((HS.out w1 hL).2.2.block _ (by rw [hWs.out]; omega)).trans b0.out)).2.1
      go_simp
      exact hK _ (Lat.refl _)
    refine wpFacts_norm (by simp only [Act.put, List.setIfInBounds_toArray, List.set_cons_zero, List.set_cons_succ]; rfl) (by simp only [List.cons_append, List.nil_append]; rfl) ?_
    refine wpFacts_rel (by rfl) (fun w1 hL hd K hK => ?_) (fun v7 => ?_)
    · have o3 : OwnStrs (w.heap.size + 2) w1 v3 g.terms := hd.2.2.1
      exact wp_copy_strs (.tmp 9) (.tmp 11) rfl (w.heap.size + 2) v4 rfl hd.1 na nc g.names rfl (HG.out.next (HS.out w1 hL).1).names h2 (fun v' w' h1 h2 h3 => hK v' w' h1 ⟨h2, fun h0 e => by
        have e3 : v3.ownBlock = some w1.heap.size := by rw [h3 h0] at e; exact e.symm
        have := (World.ownsRow.lt o3 _ e3).2
        omega⟩)
    refine wpFacts_norm (by simp only [Act.put, List.setIfInBounds_toArray, List.set_cons_zero, List.set_cons_succ]; rfl) (by simp only [List.cons_append, List.nil_append]; rfl) ?_
    refine wpFacts_rel (by rfl) (fun w1 hL hd K hK => ?_) (fun v8 => ?_)
    · have o3 : OwnStrs (w.heap.size + 2) w1 v3 g.terms := hd.1
      have o7 : OwnStrs (w.heap.size + 2) w1 v7 g.names := hd.2.1.1
      obtain ⟨xa, xc, rfl⟩ := o3.shape
      obtain ⟨ya, yc, rfl⟩ := o7.shape
      go_simp
      exact hK _ _ (Lat.refl _) ⟨_, _, rfl, rfl, rfl, o3, o7⟩
    refine wpFacts_norm (by simp only [Act.put, List.setIfInBounds_toArray, List.set_cons_zero, List.set_cons_succ]; rfl) (by simp only [List.cons_append, List.nil_append]; rfl) ?_
    refine wpFacts_fact (by rfl) (fun w1 hL hd K hK => ?_) (fun v9 => ?_)
    · go_simp
      refine hK (.pointer (some ⟨w1.heap.size, 0, none⟩)) (w1.alloc (.cells #[.slice none 0 0, .slice none 0 0, .slice none 0 0] 25)) ?_ ?_
      · exact Below.alloc (Below.refl _ _) (Nat.le_refl _) _
      · exact ⟨w1.heap.size, rfl, (HS.out w1 hL).2.1, heap_alloc_new w1 _⟩
    refine wpFacts_norm (by simp only [Act.put, List.setIfInBounds_toArray, List.set_cons_zero, List.set_cons_succ]; rfl) (by simp only [List.cons_append, List.nil_append]; rfl) ?_
    intro w1 hL ha
    obtain ⟨x, y, rfl, e3, e7, ox, oy⟩ : ∃ x y, v8 = .agg #[x, y, .slice none 0 0] ∧ x = v3 ∧ y = v7 ∧ OwnStrs (w.heap.size + 2) w1 x g.terms ∧ OwnStrs (w.heap.size + 2) w1 y g.names := allHold_get 8 ha rfl rfl
    have hdis : OwnStrs (w.heap.size + 2) w1 v7 g.names ∧ (0 < g.names.length → v7.ownBlock ≠ v3.ownBlock) := allHold_get 7 ha rfl rfl
    rw [← e3, ← e7] at hdis
    have HD1 : Hid (0 < g.names.length → y.ownBlock ≠ x.ownBlock) := hdis.2
    clear hdis e3 e7
    obtain ⟨b, rfl, hNb, hbk⟩ : ∃ b, v9 = .pointer (some ⟨b, 0, none⟩) ∧ GBlk (w.heap.size + 2) b w1 (.slice none 0 0) (.slice none 0 0) (.slice none 0 0) := allHold_get 9 ha rfl rfl
    clear ha
    obtain ⟨xa, xc, rfl⟩ := OwnStrs.shape ox
    obtain ⟨ya, yc, rfl⟩ := OwnStrs.shape oy
    obtain ⟨c0, c1, c2, z0, z1, z2⟩ := cells_three_z hbk
    have HX : Hid (OwnStrs (w.heap.size + 2) w1 (.slice xa g.terms.length xc) g.terms) := ox
    have HY : Hid (OwnStrs (w.heap.size + 2) w1 (.slice ya g.names.length yc) g.names) := oy
    have HK : Hid (w1.heap[b]? = some (.cells #[.slice none 0 0, .slice none 0 0, .slice none 0 0] 25 (0, 0))) := hbk
    have HB1 : Hid (Below W.heap.size W w1) := (HS.out w1 hL).2.2
    have hbl := (Array.getElem?_eq_some_iff.1 hbk).1
    clear ox oy hbk hL HS
    go_wp2_with fail
    have HI : Hid (OInv w (((w1.setCell ⟨b, 0, none⟩ (.slice xa g.terms.length xc)).setCell ⟨b, 1, none⟩ (.slice ya g.names.length yc)).setCell ⟨b, 2, none⟩ (.slice none 0 0)) g ⟨ta, tc, na, nc, ra, rc⟩ b (.slice xa g.terms.length xc) (.slice ya g.names.length yc) (.slice none 0 0) 0) := by
      have hs : ∀ k, k ≠ b → (((w1.setCell ⟨b, 0, none⟩ (.slice xa g.terms.length xc)).setCell ⟨b, 1, none⟩ (.slice ya g.names.length yc)).setCell ⟨b, 2, none⟩ (.slice none 0 0)).heap[k]? = w1.heap[k]? := fun k hk => by
        rw [Below.heap_setCell _ _ _ _ hk, Below.heap_setCell _ _ _ _ hk, Below.heap_setCell _ _ _ _ hk]
      have hsz := HB1.out.size
      rw [hWs.out] at hsz
      refine ⟨?_, ⟨hNb, ?_⟩, ?_, ?_, gset HK.out, ?_, ?_, OwnRls.nil _ _⟩
      · exact (((hB.out.trans (HB1.out.mono hB.out.size)).setCell (by show w.heap.size ≤ b; omega) _).setCell (by show w.heap.size ≤ b; omega) _).setCell (by show w.heap.size ≤ b; omega) _
      · rw [size_setCell, size_setCell, size_setCell]; exact hbl
      · rw [hs _ (by omega), HB1.out.block _ (by rw [hWs.out]; omega)]; exact b0.out
      · rw [hs _ (by omega), HB1.out.block _ (by rw [hWs.out]; omega)]; exact b1.out
      · have hne := own_ne HX.out HK.out (by decide)
        exact ownsRow_setCell_other (ownsRow_setCell_other (ownsRow_setCell_other HX.out hne _) hne _) hne _
      · have hne := own_ne HY.out HK.out (by decide)
        exact ownsRow_setCell_other (ownsRow_setCell_other (ownsRow_setCell_other HY.out hne _) hne _) hne _
    clear HX HY HK HB1 hB b0 b1 hWs c0 c1 c2 z0 z1 z2 hbl hNb
    generalize (((w1.setCell ⟨b, 0, none⟩ (.slice xa g.terms.length xc)).setCell ⟨b, 1, none⟩ (.slice ya g.names.length yc)).setCell ⟨b, 2, none⟩ (.slice none 0 0)) = W2 at *
    go_loopw [4] (fun i wr => ∃ (k : Nat) (vo : Option Addr) (vc : Nat), k ≤ g.rules.length ∧ i = .int .i64 k ∧ Hid (OInv w wr g ⟨ta, tc, na, nc, ra, rc⟩ b (.slice xa g.terms.length xc) (.slice ya g.names.length yc) (.slice vo k vc) k)) (fun i _ => g.rules.length - (intOf i).toNat)
    case atStart => exact ⟨0, none, 0, Nat.zero_le _, rfl, HI⟩
    case round =>
      obtain ⟨k, vo, vc, hk, rfl, hinv⟩ := hrel
      clear HI
      obtain ⟨g0, g1, g2, _⟩ := cells_three_z hinv.out.gb
      simp only at g0 g1 g2
      obtain ⟨r0, r1, r2, rz0, rz1, rz2⟩ := cells_three_z hinv.out.rb
      obtain ⟨a0, a1, a2, az0, az1, az2⟩ := cells_three_z hinv.out.ab
      have hlts := hinv.out.lt
      by_cases hlt : k < g.rules.length
      · have hki : (k : Int) < (g.rules.length : Int) := by omega
        have hk0 : (0 : Int) ≤ (k : Int) := by omega
        obtain ⟨rb, ro, xo, xrc, hra, hrb, _, k0, k1, ki, _⟩ := HG.out.rules k hlt
        simp only at hra
        subst hra
        have H8 : Hid (g.rules[k].2.length ≤ 4000) := H4.out _ (List.getElem_mem hlt)
        have HTK : Hid (g.rules.take (k + 1) = g.rules.take k ++ [g.rules[k]]) := by show _ = _; rw [List.take_add_one, List.getElem?_eq_getElem hlt]; rfl
        have KI : Hid (IntsAt w.heap.size w xo g.rules[k].2) := ki
        generalize g.rules[k] = y at *
        obtain ⟨yl, yr⟩ := y
        simp only at k0 k1 KI H8
        have HK0 : Hid (w.cell? ⟨rb, ro + k * 2, none⟩ = some (.int .i64 yl) ∧ w.cell? ⟨rb, ro + k * 2 + 1, none⟩ = some (.slice xo yr.length xrc)) := ⟨k0, k1⟩
        clear ki k0 k1
        go_upto_region 5 with fail
        have HS : Hid (∀ w1 : World, Lat wr.drew w1 → Below w.heap.size w w1 ∧ wr.heap.size ≤ w1.heap.size ∧ Below wr.heap.size wr w1) := fun w1 hL => by
          have h := hL.of_drew
          exact ⟨hinv.out.below.trans (Below.mono h hinv.out.below.size), h.size, h⟩
        refine wp_region_lat [.val (.pointer (some ⟨b, 2, none⟩)), .val (.slice vo k vc), .val (.pointer (some ⟨w.heap.size, 2, none⟩)), .val (.slice (some ⟨rb, ro, none⟩) g.rules.length rc), .val (.int .i64 k), .val (.pointer (some ⟨rb, ro + k * 2, none⟩)), .val (.pointer (some ⟨rb, ro + k * 2, none⟩)), .val (.int .i64 yl), .fact (Empty wr.heap.size 3), .val (.pointer (some ⟨w.heap.size, 2, none⟩)), .val (.slice (some ⟨rb, ro, none⟩) g.rules.length rc), .val (.int .i64 k), .val (.pointer (some ⟨rb, ro + k * 2, none⟩)), .val (.pointer (some ⟨rb, ro + k * 2 + 1, none⟩)), .val (.slice xo yr.length xrc), .fact (fun v w' => OwnInts wr.heap.size w' v yr), .fact (fun v w' => ∃ x, v = .agg #[.int .i64 yl, x] ∧ OwnInts wr.heap.size w' x yr), .fact (fun v w' => ∃ d x, v = .slice (some ⟨d, 0, none⟩) 1 1 ∧ wr.heap.size ≤ d ∧ w'.heap[d]? = some (.cells #[.int .i64 yl, x] 31 (0, 0)) ∧ OwnInts wr.heap.size w' x yr)] [_, _, _] (by kernel_rfl) (by kernel_rfl) rfl ?kept ?walk
        case kept => exact ⟨Empty.kept, ownsRow_kept, fun v w1 w2 hL ⟨x, e, h1⟩ => ⟨x, e, ownsRow_kept _ _ _ hL h1⟩, fun v w1 w2 hL ⟨d, x, e, h1, h2, h3⟩ => ⟨d, x, e, h1, by rw [hL.block _ (Array.getElem?_eq_some_iff.1 h2).1]; exact h2, ownsRow_kept _ _ _ hL h3⟩, trivial⟩
        case walk =>
          refine wpFacts_val (by rfl) (fun w1 hL hd K hK => ?_) ?_
          · go_simp
            exact hK _ (Lat.refl _)
          refine wpFacts_norm (by simp only [Act.put, List.setIfInBounds_toArray, List.set_cons_zero, List.set_cons_succ]; rfl) (by simp only [List.nil_append]; rfl) ?_
          refine wpFacts_val (by rfl) (fun w1 hL hd K hK => ?_) ?_
          · have c2 := cell_later (HS.out w1 hL).2.2 a2
            go_simp
            exact hK _ (Lat.refl _)
          refine wpFacts_norm (by simp only [Act.put, List.setIfInBounds_toArray, List.set_cons_zero, List.set_cons_succ]; rfl) (by simp only [List.cons_append, List.nil_append]; rfl) ?_
          refine wpFacts_val (by rfl) (fun w1 hL hd K hK => ?_) ?_
          · go_simp
            exact hK _ (Lat.refl _)
          refine wpFacts_norm (by simp only [Act.put, List.setIfInBounds_toArray, List.set_cons_zero, List.set_cons_succ]; rfl) (by simp only [List.cons_append, List.nil_append]; rfl) ?_
          refine wpFacts_val (by rfl) (fun w1 hL hd K hK => ?_) ?_
          · have c2 := cell_later (HS.out w1 hL).2.2 g2
            go_simp
            exact hK _ (Lat.refl _)
          refine wpFacts_norm (by simp only [Act.put, List.setIfInBounds_toArray, List.set_cons_zero, List.set_cons_succ]; rfl) (by simp only [List.cons_append, List.nil_append]; rfl) ?_
          refine wpFacts_val (by rfl) (fun w1 hL hd K hK => ?_) ?_
          · go_simp
            exact hK _ (Lat.refl _)
          refine wpFacts_norm (by simp only [Act.put, List.setIfInBounds_toArray, List.set_cons_zero, List.set_cons_succ]; rfl) (by simp only [List.cons_append, List.nil_append]; rfl) ?_
          refine wpFacts_val (by rfl) (fun w1 hL hd K hK => ?_) ?_
          · go_simp
            exact hK _ (Lat.refl _)
          refine wpFacts_norm (by simp only [Act.put, List.setIfInBounds_toArray, List.set_cons_zero, List.set_cons_succ]; rfl) (by simp only [List.cons_append, List.nil_append]; rfl) ?_
          refine wpFacts_val (by rfl) (fun w1 hL hd K hK => ?_) ?_
          · go_simp
            exact hK _ (Lat.refl _)
          refine wpFacts_norm (by simp only [Act.put, List.setIfInBounds_toArray, List.set_cons_zero, List.set_cons_succ]; rfl) (by simp only [List.cons_append, List.nil_append]; rfl) ?_
          refine wpFacts_val (by rfl) (fun w1 hL hd K hK => ?_) ?_
          · have c2 := cell_later (HS.out w1 hL).1 HK0.out.1
            go_simp
            exact hK _ (Lat.refl _)
          refine wpFacts_norm (by simp only [Act.put, List.setIfInBounds_toArray, List.set_cons_zero, List.set_cons_succ]; rfl) (by simp only [List.cons_append, List.nil_append]; rfl) ?_
          refine wpFacts_fact (by rfl) (fun w1 hL hd K hK => ?_) (fun v8 => ?_)
          · go_simp
            exact hK _ _ (Below.alloc (Below.refl _ _) (Nat.le_refl _) _) (Empty.new _ _ _ (HS.out w1 hL).2.1)
          refine wpFacts_norm (by simp only [Act.put, List.setIfInBounds_toArray, List.set_cons_zero, List.set_cons_succ]; rfl) (by simp only [List.cons_append, List.nil_append]; rfl) ?_
          refine wpFacts_val (by rfl) (fun w1 hL hd K hK => ?_) ?_
          · go_simp
            exact hK _ (Lat.refl _)
          refine wpFacts_norm (by simp only [Act.put, List.setIfInBounds_toArray, List.set_cons_zero, List.set_cons_succ]; rfl) (by simp only [List.cons_append, List.nil_append]; rfl) ?_
          refine wpFacts_val (by rfl) (fun w1 hL hd K hK => ?_) ?_
          · have c2 := cell_later (HS.out w1 hL).2.2 g2
            go_simp
            exact hK _ (Lat.refl _)
          refine wpFacts_norm (by simp only [Act.put, List.setIfInBounds_toArray, List.set_cons_zero, List.set_cons_succ]; rfl) (by simp only [List.cons_append, List.nil_append]; rfl) ?_
          refine wpFacts_val (by rfl) (fun w1 hL hd K hK => ?_) ?_
          · go_simp
            exact hK _ (Lat.refl _)
          refine wpFacts_norm (by simp only [Act.put, List.setIfInBounds_toArray, List.set_cons_zero, List.set_cons_succ]; rfl) (by simp only [List.cons_append, List.nil_append]; rfl) ?_
          refine wpFacts_val (by rfl) (fun w1 hL hd K hK => ?_) ?_
          · go_simp
            exact hK _ (Lat.refl _)
          refine wpFacts_norm (by simp only [Act.put, List.setIfInBounds_toArray, List.set_cons_zero, List.set_cons_succ]; rfl) (by simp only [List.cons_append, List.nil_append]; rfl) ?_
          refine wpFacts_val (by rfl) (fun w1 hL hd K hK => ?_) ?_
          · go_simp
            exact hK _ (Lat.refl _)
          refine wpFacts_norm (by simp only [Act.put, List.setIfInBounds_toArray, List.set_cons_zero, List.set_cons_succ]; rfl) (by simp only [List.cons_append, List.nil_append]; rfl) ?_
          refine wpFacts_val (by rfl) (fun w1 hL hd K hK => ?_) ?_
          · have c2 := cell_later (HS.out w1 hL).1 HK0.out.2
            go_simp
            exact hK _ (Lat.refl _)
          refine wpFacts_norm (by simp only [Act.put, List.setIfInBounds_toArray, List.set_cons_zero, List.set_cons_succ]; rfl) (by simp only [List.cons_append, List.nil_append]; rfl) ?_
          refine wpFacts_fact (by rfl) (fun w1 hL hd K hK => ?_) (fun v15 => ?_)
          · exact wp_copy_ints (.tmp 29) (.tmp 35) rfl wr.heap.size v8 rfl hd.1 xo xrc yr rfl (KI.out.later (HS.out w1 hL).1).size H8.out (fun v' w' h1 h2 _ => hK v' w' h1 h2)
          refine wpFacts_norm (by simp only [Act.put, List.setIfInBounds_toArray, List.set_cons_zero, List.set_cons_succ]; rfl) (by simp only [List.cons_append, List.nil_append]; rfl) ?_
          refine wpFacts_fact (by rfl) (fun w1 hL hd K hK => ?_) (fun v16 => ?_)
          · have o15 : OwnInts wr.heap.size w1 v15 yr := hd.2.1
            obtain ⟨xa2, xc2, rfl⟩ := o15.shape
            go_simp
            exact hK _ _ (Lat.refl _) ⟨_, rfl, o15⟩
          refine wpFacts_norm (by simp only [Act.put, List.setIfInBounds_toArray, List.set_cons_zero, List.set_cons_succ]; rfl) (by simp only [List.cons_append, List.nil_append]; rfl) ?_
          refine wpFacts_fact (by rfl) (fun w1 hL hd K hK => ?_) (fun v17 => ?_)
          · obtain ⟨x17, rfl, o17⟩ : ∃ x, v16 = .agg #[.int .i64 yl, x] ∧ OwnInts wr.heap.size w1 x yr := hd.1
            obtain ⟨xa2, xc2, rfl⟩ := OwnInts.shape o17
            go_simp
            refine hK (.slice (some ⟨w1.heap.size, 0, none⟩) 1 1) _ (Below.alloc (Below.refl _ _) (Nat.le_refl _) _) ⟨w1.heap.size, _, rfl, (HS.out w1 hL).2.1, heap_alloc_new w1 _, ownsRow_below o17 (Below.alloc (Below.refl _ _) (Nat.le_refl _) _)⟩
          refine wpFacts_norm (by simp only [Act.put, List.setIfInBounds_toArray, List.set_cons_zero, List.set_cons_succ]; rfl) (by simp only [List.cons_append, List.nil_append]; rfl) ?_
          intro w1 hL ha
          obtain ⟨d, x17, rfl, hd1, hd2, hd3⟩ : ∃ d x, v17 = .slice (some ⟨d, 0, none⟩) 1 1 ∧ wr.heap.size ≤ d ∧ w1.heap[d]? = some (.cells #[.int .i64 yl, x] 31 (0, 0)) ∧ OwnInts wr.heap.size w1 x yr := allHold_get 17 ha rfl rfl
          obtain ⟨xa2, xc2, rfl⟩ := OwnInts.shape hd3
          clear ha
          have HB1 : Hid (Below wr.heap.size wr w1) := (HS.out w1 hL).2.2
          have hI1 : Hid (OInv w w1 g ⟨ta, tc, na, nc, some ⟨rb, ro, none⟩, rc⟩ b (.slice xa g.terms.length xc) (.slice ya g.names.length yc) (.slice vo k vc) k) := hinv.out.later HB1.out
          have HL : Hid ((g.rules.take k).length = k) := by show _ = _; rw [List.length_take]; omega
          have hw1 := hI1.out.below.size
          have hlt1 := hI1.out.lt
          obtain ⟨d0, d1, _, _⟩ := cells_two_z hd2
          refine wpList_append_rl rfl (.tmp 22) (.tmp 38) rfl (w.heap.size + 2) (.slice vo k vc) (g.rules.take k) rfl hI1.out.ov d 1 (yl, yr) xa2 xc2 rfl d0 d1 (ownsRow_from hd3 (by have := hinv.out.lt; omega)) (by rw [HL.out]; omega) (by omega) ?_
          intro ga cap w2 ho2 hg2
          rw [HL.out, ← HTK.out] at ho2
          have hI2 : Hid (OInv w (w2.setCell ⟨b, 2, none⟩ (.slice (some ⟨ga, 0, none⟩) (k + 1) cap)) g ⟨ta, tc, na, nc, some ⟨rb, ro, none⟩, rc⟩ b (.slice xa g.terms.length xc) (.slice ya g.names.length yc) (.slice (some ⟨ga, 0, none⟩) (k + 1) cap) (k + 1)) := hI1.out.push hg2 ho2
          obtain ⟨e0, e1, e2, ez0, ez1, ez2⟩ := cells_three_z ((hI1.out.grown hg2 b (Nat.le_refl _) hI1.out.ab).trans hI1.out.ab)
          rw [HL.out]
          clear hd1 hd2 hd3 ho2 hg2 d0 d1 hI1 HB1 hL HS
          go_wp2_with fail
          go_roundw
          case rel => exact ⟨k + 1, some ⟨ga, 0, none⟩, cap, by omega, by go_num, hI2⟩
          case measure => simp [intOf]; omega
      · have HKE : Hid (k = g.rules.length) := by show _ = _; omega
        have HOW : Hid (GmOwn (w.heap.size + 2) wr g ⟨xa, xc, ya, yc, vo, vc⟩) := by
          have h := hinv.out
          have e := HKE.out
          subst e
          have hr := h.ov
          rw [List.take_length] at hr
          exact ⟨h.ox, h.oy, hr, HG.out.ttext, HG.out.ntext⟩
        go_wp2_with fail
        refine bodyPost_ret (v := .agg #[.slice xa g.terms.length xc, .slice ya g.names.length yc, .slice vo k vc]) (by simp [results, Try.results16, go_sem, r0, r1, r2]) rfl ⟨⟨xa, xc, ya, yc, vo, vc⟩, by rw [HKE.out], ?_, ?_, HD1⟩
        · have hz : (⟨w.heap.size + 1, 0, none⟩ : Addr).block < w.heap.size + 2 := Nat.lt_succ_self _
          exact (((HOW.out.setCell (a := ⟨w.heap.size + 1, 0, none⟩) hz _).setCell (a := ⟨w.heap.size + 1, 1, none⟩) hz _).setCell (a := ⟨w.heap.size + 1, 2, none⟩) hz _).from (Nat.le_add_right _ _)
        · have hz : w.heap.size ≤ w.heap.size + 1 := Nat.le_succ _
          exact ((hinv.out.below.setCell (by exact hz) _).setCell (by exact hz) _).setCell (by exact hz) _
end Go.Proofs.Ytdocbgfpnaiijaa
