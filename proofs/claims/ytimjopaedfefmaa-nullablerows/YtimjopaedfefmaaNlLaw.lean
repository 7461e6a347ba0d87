/-
  The laws of layer 6: wakes.
  The laws of layer 6: rows of integers that come in; when a law of layer 6 looks at nothing but its own example.
-/
import Derived.Test.YtimjopaedfefmaaNlRefs
import Derived.Test.YtimjopaedfefmaaGrTop
import Derived.Test.YtimjopaedfefmaaGrKeeps
import Derived.Test.YtimjopaedfefmaaGrOpen
import Derived.OpenShut
namespace Go.Proofs.Ytimjopaedfefmaa
open Go.RowKit Go.Conc

def ngm : Gr.Gm := ⟨[⟨#[97]⟩, ⟨#[98]⟩, ⟨#[99]⟩], [⟨#[83]⟩, ⟨#[65]⟩, ⟨#[66]⟩, ⟨#[67]⟩], [(3, [4, 5]), (3, [0]), (4, []), (5, [5, 1]), (5, [4, 4]), (6, [2])]⟩
theorem nw1 : Hid (ofS (⟨#[83, 32, 61, 32, 65, 32, 66, 32, 124, 32, 39, 97, 39, 32, 59, 32, 65, 32, 61, 32, 59, 32, 66, 32, 61, 32, 66, 32, 39, 98, 39, 32, 124, 32, 65, 32, 65, 32, 59, 32, 67, 32, 61, 32, 39, 99, 39, 32, 59]⟩ : ByteArray).data.toList = (0, 0, ngm)) := by show _ = _; kernel_rfl
theorem ngood : Gr.good ngm = true := by kernel_rfl
theorem nw2 : Nl.of ngm = [false, false, false, true, true, true, false] := by
  unfold Nl.of
  rw [if_pos ngood, ← Nl.rounds_is (Nl.fit_of ngood) (k := 7) (by decide)]
  kernel_rfl
theorem nall (l : List Int) : Nl.all ngm l = Nl.allIn [false, false, false, true, true, true, false] l := by
  unfold Nl.all; rw [ngood, nw2]; rfl
theorem nw3 : Nl.rule ngm 0 = true := by unfold Nl.rule; rw [nall]; kernel_rfl
theorem nw4 : Nl.rule ngm 1 = false := by unfold Nl.rule; rw [nall]; kernel_rfl
theorem nw5 : Nl.all ngm [] = true := by rw [nall]; kernel_rfl
theorem nw6 : Nl.all ngm [3, 0] = false := by rw [nall]; kernel_rfl
theorem nw7 : Nl.all ngm [99] = false := by rw [nall]; kernel_rfl

theorem bools_new (w : World) (bs : List Bool) (t : TypeId) : BoolsAt (w.alloc (.cells (bs.map Value.bool).toArray t)).heap.size (w.alloc (.cells (bs.map Value.bool).toArray t)) (some ⟨w.heap.size, 0, none⟩) bs := by
  intro i hi
  have hi' : i < bs.length := by simpa using hi
  have hb : (w.alloc (.cells (bs.map Value.bool).toArray t)).heap[w.heap.size]? = some (.cells (bs.map Value.bool).toArray t) := heap_alloc_new w _
  refine ⟨w.heap.size, 0, rfl, by simp, by simp, ?_⟩
  unfold World.cell?
  simp only [hb]
  simp [hi']
theorem ints_new (w : World) (xs : List Int) (t : TypeId) : IntsAt (w.alloc (.cells (xs.map (Value.int .i64)).toArray t)).heap.size (w.alloc (.cells (xs.map (Value.int .i64)).toArray t)) (some ⟨w.heap.size, 0, none⟩) xs := by
  intro i hi
  have hi' : i < xs.length := by simpa using hi
  have hb : (w.alloc (.cells (xs.map (Value.int .i64)).toArray t)).heap[w.heap.size]? = some (.cells (xs.map (Value.int .i64)).toArray t) := heap_alloc_new w _
  refine ⟨w.heap.size, 0, rfl, by simp, by simp, ?_⟩
  unfold World.cell?
  simp only [hb]
  simp [hi']

set_option maxRecDepth 100000 in
set_option maxHeartbeats 3200000 in
theorem nwakes_any (w : World) : Calls Try.prog 16 #[] w fun e w' => e = .returned (.bool true) ∧ Below w.heap.size w w' := by
  have hm4 : ∀ x ∈ ngm.rules, x.2.length ≤ 4000 := by intro x hx; simp [ngm] at hx; rcases hx with rfl | rfl | rfl | rfl | rfl | rfl <;> simp
  have hml : ∀ x ∈ ngm.rules, x.2.length ≤ maxLen := fun x hx => Nat.le_trans (hm4 x hx) (by unfold maxLen; omega)
  have HM4 : Hid _ := hm4
  have HML : Hid _ := hml
  clear hm4 hml
  go_enter Try.func16, Try.ntmps16
  go_wp2_with (go_at_call 10; fail)
  refine (of_is _ _ _ _ _ (by decide) nw1).mono ?_
  rintro e w1 ⟨⟨ta, tc, na, nc, ra, rc⟩, rfl, hb1, ho1⟩
  simp only [gmCells]
  have hbA : Hid (Below w1.heap.size w1 ((w1.alloc (Obj.cells #[.slice ta ngm.terms.length tc, .slice na ngm.names.length nc, .slice ra ngm.rules.length rc] 26)).alloc (Obj.cells #[.int .i64 0, .int .i64 0] 29))) := ((Below.refl _ w1).alloc (Nat.le_refl _) _).alloc (by simp) _
  have kG : Hid (((w1.alloc (Obj.cells #[.slice ta ngm.terms.length tc, .slice na ngm.names.length nc, .slice ra ngm.rules.length rc] 26)).alloc (Obj.cells #[.int .i64 0, .int .i64 0] 29)).heap[w1.heap.size]? = some (.cells #[.slice ta ngm.terms.length tc, .slice na ngm.names.length nc, .slice ra ngm.rules.length rc] 26 (0, 0))) := by
    show _ = _; rw [Below.heap_alloc _ _ _ (by simp)]; exact heap_alloc_new w1 _
  have kF : Hid (((w1.alloc (Obj.cells #[.slice ta ngm.terms.length tc, .slice na ngm.names.length nc, .slice ra ngm.rules.length rc] 26)).alloc (Obj.cells #[.int .i64 0, .int .i64 0] 29)).heap[w1.heap.size + 1]? = some (.cells #[.int .i64 0, .int .i64 0] 29 (0, 0))) := by
    show _ = _
    have := heap_alloc_new (w1.alloc (Obj.cells #[.slice ta ngm.terms.length tc, .slice na ngm.names.length nc, .slice ra ngm.rules.length rc] 26)) (Obj.cells #[.int .i64 0, .int .i64 0] 29)
    simpa using this
  have gA : Hid _ := ho1.out.below hbA.out
  have hB : Hid _ := hb1.out.trans (hbA.out.mono hb1.out.size)
  clear ho1 hb1 hbA
  go_wp2_with (go_at_call 18; fail)
  generalize ((w1.alloc (Obj.cells #[.slice ta ngm.terms.length tc, .slice na ngm.names.length nc, .slice ra ngm.rules.length rc] 26)).alloc (Obj.cells #[.int .i64 0, .int .i64 0] 29)) = W at *
  refine Calls.mono (nof_is ngm ⟨ta, tc, na, nc, ra, rc⟩ W HML.out gA.out.at) ?_
  rintro e w2 ⟨lo, lc, rfl, hl2, hb2⟩
  rw [nw2] at hl2 ⊢
  simp only [List.length_cons, List.length_nil, Nat.zero_add, Nat.reduceAdd]
  have kG2 : Hid _ := (hb2.out.block _ (Array.getElem?_eq_some_iff.1 kG.out).1).trans kG.out
  have kF2 : Hid _ := (hb2.out.block _ (Array.getElem?_eq_some_iff.1 kF.out).1).trans kF.out
  have gA2 : Hid _ := gA.out.below hb2.out
  have hB2 : Hid _ := hB.out.trans (hb2.out.mono hB.out.size)
  clear kG kF gA hB hb2
  obtain ⟨f0, f1, _⟩ := cells_two_z kF2.out
  obtain ⟨g0, g1, g2, _⟩ := cells_three_z kG2.out
  have hb3 : Below w2.heap.size w2 (w2.alloc (Obj.cells #[Value.bool false, Value.bool false, Value.bool false, Value.bool true, Value.bool true, Value.bool true, Value.bool false] 4)) := (Below.refl _ w2).alloc (Nat.le_refl _) _
  have hl3 : Hid _ := hl2.out.next hb3
  have hn3 : Hid _ := bools_new w2 [false, false, false, true, true, true, false] 4
  have kG3 : Hid _ := (hb3.block _ (Array.getElem?_eq_some_iff.1 kG2.out).1).trans kG2.out
  have gA3 : Hid _ := gA2.out.below hb3
  have hB3 : Hid _ := hB2.out.trans (hb3.mono hB2.out.size)
  clear kF2 hl2
  go_wp2_with (go_at_call 17; fail)
  refine Calls.mono (keepBools_is true [false, false, false, true, true, true, false] [false, false, false, true, true, true, false] (by decide) lo _ lc 7 _ hl3.out hn3.out rfl rfl) ?_
  rintro e w4 ⟨rfl, hb4⟩
  clear hl3 hn3 kG2 gA2 hB2 hb3 f0 f1
  have kG4 : Hid _ := (hb4.block _ (Array.getElem?_eq_some_iff.1 kG3.out).1).trans kG3.out
  have gA4 : Hid _ := gA3.out.below hb4
  have hB4 : Hid _ := hB3.out.trans (hb4.mono hB3.out.size)
  clear kG3 gA3 hB3 hb4 g0 g1 g2
  obtain ⟨g0, g1, g2, _⟩ := cells_three_z kG4.out
  go_wp2_with (go_at_call 20; fail)
  refine Calls.mono (nrule_is true ngm ⟨ta, tc, na, nc, ra, rc⟩ 0 w4 HM4.out gA4.out.at nw3) ?_
  rintro e w5 ⟨rfl, hb5⟩
  have kG5 : Hid _ := (hb5.block _ (Array.getElem?_eq_some_iff.1 kG4.out).1).trans kG4.out
  have gA5 : Hid _ := gA4.out.below hb5
  have hB5 : Hid _ := hB4.out.trans (hb5.mono hB4.out.size)
  clear kG4 gA4 hB4 hb5 g0 g1 g2
  obtain ⟨g0, g1, g2, _⟩ := cells_three_z kG5.out
  go_wp2_with (go_at_call 20; fail)
  refine Calls.mono (nrule_is false ngm ⟨ta, tc, na, nc, ra, rc⟩ 1 w5 HM4.out gA5.out.at nw4) ?_
  rintro e w6 ⟨rfl, hb6⟩
  have kG6 : Hid _ := (hb6.block _ (Array.getElem?_eq_some_iff.1 kG5.out).1).trans kG5.out
  have gA6 : Hid _ := gA5.out.below hb6
  have hB6 : Hid _ := hB5.out.trans (hb6.mono hB5.out.size)
  clear kG5 gA5 hB5 hb6 g0 g1 g2
  obtain ⟨g0, g1, g2, _⟩ := cells_three_z kG6.out
  go_wp2_with (go_at_call 22; fail)
  refine Calls.mono (nall_is true ngm ⟨ta, tc, na, nc, ra, rc⟩ [] none 0 w6 HML.out gA6.out.at IntsAt.nil (by decide) nw5) ?_
  rintro e w7 ⟨rfl, hb7⟩
  have kG7 : Hid _ := (hb7.block _ (Array.getElem?_eq_some_iff.1 kG6.out).1).trans kG6.out
  have gA7 : Hid _ := gA6.out.below hb7
  have hB7 : Hid _ := hB6.out.trans (hb7.mono hB6.out.size)
  clear kG6 gA6 hB6 hb7 g0 g1 g2
  obtain ⟨g0, g1, g2, _⟩ := cells_three_z kG7.out
  have hb8 : Below w7.heap.size w7 (w7.alloc (Obj.cells #[Value.int .i64 3, Value.int .i64 0] 3)) := (Below.refl _ w7).alloc (Nat.le_refl _) _
  have hn8 : Hid _ := ints_new w7 [3, 0] 3
  have kG8 : Hid _ := (hb8.block _ (Array.getElem?_eq_some_iff.1 kG7.out).1).trans kG7.out
  have gA8 : Hid _ := gA7.out.below hb8
  have hB8 : Hid _ := hB7.out.trans (hb8.mono hB7.out.size)
  go_wp2_with (go_at_call 22; fail)
  refine Calls.mono (nall_is false ngm ⟨ta, tc, na, nc, ra, rc⟩ [3, 0] _ 2 _ HML.out gA8.out.at hn8.out (by decide) nw6) ?_
  rintro e w9 ⟨rfl, hb9⟩
  clear hn8 kG7 gA7 hB7 hb8
  have kG9 : Hid _ := (hb9.block _ (Array.getElem?_eq_some_iff.1 kG8.out).1).trans kG8.out
  have gA9 : Hid _ := gA8.out.below hb9
  have hB9 : Hid _ := hB8.out.trans (hb9.mono hB8.out.size)
  clear kG8 gA8 hB8 hb9 g0 g1 g2
  obtain ⟨g0, g1, g2, _⟩ := cells_three_z kG9.out
  have hb10 : Below w9.heap.size w9 (w9.alloc (Obj.cells #[Value.int .i64 99] 3)) := (Below.refl _ w9).alloc (Nat.le_refl _) _
  have hn10 : Hid _ := ints_new w9 [99] 3
  have gA10 : Hid _ := gA9.out.below hb10
  have hB10 : Hid _ := hB9.out.trans (hb10.mono hB9.out.size)
  go_wp2_with (go_at_call 22; fail)
  refine Calls.mono (nall_is false ngm ⟨ta, tc, na, nc, ra, rc⟩ [99] _ 1 _ HML.out gA10.out.at hn10.out (by decide) nw7) ?_
  rintro e w11 ⟨rfl, hb11⟩
  have hB11 : Hid _ := hB10.out.trans (hb11.mono hB10.out.size)
  clear hb11 hb10 hn10 gA10 hB10 kG9 gA9 hB9
  go_wp2_with fail
  go_ret
  exact ⟨rfl, hB11.out⟩
end Go.Proofs.Ytimjopaedfefmaa

namespace Go.Proofs.Ytimjopaedfefmaa
open Go.RowKit Go.Conc

/-- a slice of integers that came in: nil, or a row of 'cap' cells, the numbers 'zs' -/
def IsRow (k : IntKind) (w : World) (a : Option Addr) (len cap : Nat) (zs : List Int) : Prop :=
  (a = none ∧ len = 0 ∧ cap = 0 ∧ zs = []) ∨
  ∃ x, a = some x ∧ len ≤ cap ∧ cap ≤ maxLen ∧ zs.length = cap ∧ (∀ i, i < zs.length → w.cell? (x.add i) = some (.int k (zs.getD i 0))) ∧ ∀ n ∈ zs, (Lit.int k n).wf = true

/-- the numbers of a row that came in -/
def KindAt (k : IntKind) (N : Nat) (w : World) (ao : Option Addr) (xs : List Int) : Prop := CellsAt N w ao (xs.map (.int k))

theorem IsRow.read {k : IntKind} {w : World} {a : Option Addr} {len cap : Nat} {zs : List Int} (h : IsRow k w a len cap zs) :
    ∃ xs : List Int, len = xs.length ∧ KindAt k w.heap.size w a xs ∧ xs.length ≤ maxLen ∧ ∀ x ∈ xs, (Lit.int k x).wf = true := by
  rcases h with ⟨rfl, rfl, rfl, rfl⟩ | ⟨x, rfl, h1, h2, h3, h4, h5⟩
  · exact ⟨[], rfl, CellsAt.nil, by simp, fun x hx => by simp at hx⟩
  · have hl : (zs.take len).length = len := by rw [List.length_take]; omega
    refine ⟨zs.take len, hl.symm, fun i hi => ?_, by omega, fun y hy => h5 y (List.mem_of_mem_take hy)⟩
    have hi' : i < len := by rw [List.length_map, hl] at hi; exact hi
    obtain ⟨b, o, rfl, hc⟩ := ints_at h4 (by omega)
    have hci := hc i (by omega)
    refine ⟨b, o, rfl, World.block_lt_of_cell? _ _ hci, World.block_lt_of_cell? _ _ hci, ?_⟩
    rw [hci, List.getElem_map, List.getElem_take]
    congr 2
    simp [List.getD, show i < zs.length from by omega]
end Go.Proofs.Ytimjopaedfefmaa
