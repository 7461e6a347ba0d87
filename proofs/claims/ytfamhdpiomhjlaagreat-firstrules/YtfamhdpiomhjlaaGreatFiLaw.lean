/-
  The laws of layer 8: wakes: when a law of layer 8 looks at nothing but its own example.
-/
import Derived.Test.YtfamhdpiomhjlaaGreatFiOf
import Derived.Test.YtfamhdpiomhjlaaGreatKeepLists
import Derived.Test.YtfamhdpiomhjlaaGreatGrTop
import Derived.Test.YtfamhdpiomhjlaaGreatGrKeeps
import Derived.Test.YtfamhdpiomhjlaaGreatGrOpen
import Derived.OpenShut
namespace Go.Proofs.YtfamhdpiomhjlaaGreat
open Go.RowKit Go.Conc

def fgm : Gr.Gm := ⟨[⟨#[98]⟩, ⟨#[97]⟩], [⟨#[83]⟩, ⟨#[65]⟩], [(2, [3, 0]), (3, [1]), (3, [])]⟩
theorem fw1 : Hid (ofS (⟨#[83, 32, 61, 32, 65, 32, 39, 98, 39, 32, 59, 32, 65, 32, 61, 32, 39, 97, 39, 32, 124, 32, 59]⟩ : ByteArray).data.toList = (0, 0, fgm)) := by show _ = _; kernel_rfl
theorem fgood : Gr.good fgm = true := by kernel_rfl
theorem fw2 : Nl.of fgm = [false, false, false, true] := by
  unfold Nl.of
  rw [if_pos fgood, ← Nl.rounds_is (Nl.fit_of fgood) (k := 4) (by decide)]
  kernel_rfl
theorem fw3 : Fi.tab fgm = [[true, false], [false, true], [true, true], [false, true]] := by
  unfold Fi.tab
  rw [fw2]
  have hsh : Fi.Shape 4 2 [[true, false], [false, true], [true, true], [false, true]] := ⟨rfl, fun r hr => by simp at hr; rcases hr with rfl | rfl | rfl | rfl <;> rfl⟩
  have hcl : ∀ t : Int, 0 ≤ t → t < 2 → ∀ r ∈ fgm.rules, ∀ x ∈ Fi.heads [false, false, false, true] r.2, Fi.has [[true, false], [false, true], [true, true], [false, true]] x t = true → Fi.has [[true, false], [false, true], [true, true], [false, true]] r.1 t = true := by
    intro t h0 h1
    obtain rfl | rfl : t = 0 ∨ t = 1 := by omega
    · decide
    · decide
  refine (Fi.rows_is hsh (fun s t h => ?_) (fun t h0 h1 => ?_) fun r hr x hx t h => ?_).symm
  · obtain ⟨⟨s0, s1⟩, t0, t1⟩ := hsh.lt h
    have b0 : Fi.Beg fgm.rules [false, false, false, true] 2 0 0 := .own 0 (by decide) (by decide)
    have b1 : Fi.Beg fgm.rules [false, false, false, true] 2 1 1 := .own 1 (by decide) (by decide)
    have b2 : Fi.Beg fgm.rules [false, false, false, true] 2 3 1 := .up (3, [1]) (by simp [fgm]) 1 (by simp [Fi.heads]) 1 b1
    have b3 : Fi.Beg fgm.rules [false, false, false, true] 2 2 1 := .up (2, [3, 0]) (by simp [fgm]) 3 (by simp [Fi.heads]) 1 b2
    have b4 : Fi.Beg fgm.rules [false, false, false, true] 2 2 0 := .up (2, [3, 0]) (by simp [fgm]) 0 (by decide) 0 b0
    obtain rfl | rfl | rfl | rfl : s = 0 ∨ s = 1 ∨ s = 2 ∨ s = 3 := by omega
    all_goals
      obtain rfl | rfl : t = 0 ∨ t = 1 := by omega
      all_goals first | assumption | (exact absurd h (by decide))
  · obtain rfl | rfl : t = 0 ∨ t = 1 := by have : t < 2 := h1; omega
    · decide
    · decide
  · have := hsh.lt h
    exact hcl t this.2.1 this.2.2 r hr x hx h
theorem fw4 : Fi.setsG fgm = [[0], [1], [0, 1], [1]] := by
  unfold Fi.setsG
  rw [if_pos fgood, fw3]
  kernel_rfl
theorem fw5 : Fi.okG fgm [3, 0] = true := by kernel_rfl
theorem fw6 : Fi.ofG fgm [3, 0] = [0, 1] := by
  unfold Fi.ofG
  rw [if_pos fw5, fw2, fw3]
  kernel_rfl
theorem fw7 : Fi.okG fgm [] = true := by kernel_rfl
theorem fw8 : Fi.ofG fgm [] = [] := by
  unfold Fi.ofG
  rw [if_pos fw7, fw2, fw3]
  kernel_rfl
theorem fw9 : Fi.okG fgm [9] = false := by kernel_rfl

theorem ints_block {w : World} {b : Nat} {xs : List Int} {t : TypeId} (h : w.heap[b]? = some (.cells (xs.map (Value.int .i64)).toArray t (0, 0))) : IntsAt w.heap.size w (some ⟨b, 0, none⟩) xs := by
  have hlt := (Array.getElem?_eq_some_iff.1 h).1
  intro i hi
  have hi' : i < xs.length := by simpa using hi
  refine ⟨b, 0, rfl, hlt, hlt, ?_⟩
  simp [World.cell?, h, hi']

set_option maxRecDepth 100000 in
set_option maxHeartbeats 3200000 in
theorem fwakes_any (w : World) : Calls Tryz.prog 9 #[] w fun e w' => e = .returned (.bool true) ∧ Below w.heap.size w w' := by
  have hm4 : ∀ x ∈ fgm.rules, x.2.length ≤ 4000 := by intro x hx; simp [fgm] at hx; rcases hx with rfl | rfl | rfl <;> simp
  have hml : ∀ x ∈ fgm.rules, x.2.length ≤ maxLen := fun x hx => Nat.le_trans (hm4 x hx) (by unfold maxLen; omega)
  have HM4 : Hid _ := hm4
  have HML : Hid _ := hml
  clear hm4 hml
  go_enter Tryz.func9, Tryz.ntmps9
  go_wp2_with (go_at_call 31; fail)
  refine (of_is _ _ _ _ _ (by decide) fw1).mono ?_
  rintro e w1 ⟨⟨ta, tc, na, nc, ra, rc⟩, rfl, hb1, ho1⟩
  simp only [gmCells]
  have hbA : Hid (Below w1.heap.size w1 ((w1.alloc (Obj.cells #[.slice ta fgm.terms.length tc, .slice na fgm.names.length nc, .slice ra fgm.rules.length rc] 25)).alloc (Obj.cells #[.int .i64 0, .int .i64 0] 54))) := ((Below.refl _ w1).alloc (Nat.le_refl _) _).alloc (by simp) _
  have kG : Hid (((w1.alloc (Obj.cells #[.slice ta fgm.terms.length tc, .slice na fgm.names.length nc, .slice ra fgm.rules.length rc] 25)).alloc (Obj.cells #[.int .i64 0, .int .i64 0] 54)).heap[w1.heap.size]? = some (.cells #[.slice ta fgm.terms.length tc, .slice na fgm.names.length nc, .slice ra fgm.rules.length rc] 25 (0, 0))) := by
    show _ = _; rw [Below.heap_alloc _ _ _ (by simp)]; exact heap_alloc_new w1 _
  have kF : Hid (((w1.alloc (Obj.cells #[.slice ta fgm.terms.length tc, .slice na fgm.names.length nc, .slice ra fgm.rules.length rc] 25)).alloc (Obj.cells #[.int .i64 0, .int .i64 0] 54)).heap[w1.heap.size + 1]? = some (.cells #[.int .i64 0, .int .i64 0] 54 (0, 0))) := by
    show _ = _
    have := heap_alloc_new (w1.alloc (Obj.cells #[.slice ta fgm.terms.length tc, .slice na fgm.names.length nc, .slice ra fgm.rules.length rc] 25)) (Obj.cells #[.int .i64 0, .int .i64 0] 54)
    simpa using this
  have gA : Hid _ := ho1.out.below hbA.out
  have hB : Hid _ := hb1.out.trans (hbA.out.mono hb1.out.size)
  clear ho1 hb1 hbA
  go_wp2_with (go_at_call 10; fail)
  generalize ((w1.alloc (Obj.cells #[.slice ta fgm.terms.length tc, .slice na fgm.names.length nc, .slice ra fgm.rules.length rc] 25)).alloc (Obj.cells #[.int .i64 0, .int .i64 0] 54)) = W at *
  refine Calls.mono (fsets_is fgm ⟨ta, tc, na, nc, ra, rc⟩ W HML.out gA.out.at) ?_
  rintro e w2 ⟨lo, lc, rfl, hl2, hb2⟩
  rw [fw4] at hl2 ⊢
  simp only [List.length_cons, List.length_nil, Nat.zero_add, Nat.reduceAdd]
  have kG2 : Hid _ := (hb2.out.block _ (Array.getElem?_eq_some_iff.1 kG.out).1).trans kG.out
  have kF2 : Hid _ := (hb2.out.block _ (Array.getElem?_eq_some_iff.1 kF.out).1).trans kF.out
  have gA2 : Hid _ := gA.out.below hb2.out
  have hB2 : Hid _ := hB.out.trans (hb2.out.mono hB.out.size)
  clear kG kF gA hB hb2
  obtain ⟨g0, g1, g2, _⟩ := cells_three_z kG2.out
  have hb3 : Below w2.heap.size w2 (w2.alloc (Obj.cells #[Value.int .i64 3, Value.int .i64 0] 3)) := (Below.refl _ w2).alloc (Nat.le_refl _) _
  have hn3 : Hid _ := ints_new w2 [3, 0] 3
  have kG3 : Hid _ := (hb3.block _ (Array.getElem?_eq_some_iff.1 kG2.out).1).trans kG2.out
  have kF3 : Hid _ := (hb3.block _ (Array.getElem?_eq_some_iff.1 kF2.out).1).trans kF2.out
  have gA3 : Hid _ := gA2.out.below hb3
  have hB3 : Hid _ := hB2.out.trans (hb3.mono hB2.out.size)
  have hl3 : Hid (LisAt _ _ lo _) := LisAt.next hl2.out hb3
  clear kF2 hl2 kG2 gA2 hB2
  go_wp2_with (go_at_call 11; fail)
  refine Calls.mono (fof_is fgm ⟨ta, tc, na, nc, ra, rc⟩ [3, 0] _ 2 0 _ HML.out gA3.out.at hn3.out (by decide) (by decide) (by rw [fw5]; rfl)) ?_
  rintro e w4 ⟨xo, xc, rfl, hx4, hb4⟩
  rw [fw6] at hx4 ⊢
  simp only [List.length_cons, List.length_nil, Nat.zero_add, Nat.reduceAdd]
  clear g0 g1 g2 hn3
  have kG4 : Hid _ := (hb4.out.block _ (Array.getElem?_eq_some_iff.1 kG3.out).1).trans kG3.out
  have kF4 : Hid _ := (hb4.out.block _ (Array.getElem?_eq_some_iff.1 kF3.out).1).trans kF3.out
  have gA4 : Hid _ := gA3.out.below hb4.out
  have hB4 : Hid _ := hB3.out.trans (hb4.out.mono hB3.out.size)
  have hl4 : Hid (LisAt _ _ lo _) := LisAt.next hl3.out hb4.out
  clear kF3 hl3 kG3 gA3 hB3 hb4 hb3
  obtain ⟨g0, g1, g2, _⟩ := cells_three_z kG4.out
  go_wp2_with (go_at_call 11; fail)
  refine Calls.mono (fof_is fgm ⟨ta, tc, na, nc, ra, rc⟩ [] none 0 0 w4 HML.out gA4.out.at IntsAt.nil (by decide) (by decide) (by rw [fw7]; rfl)) ?_
  rintro e w5 ⟨yo, yc, rfl, _, hb5⟩
  rw [fw8]
  simp only [List.length_nil]
  have kG5 : Hid _ := (hb5.out.block _ (Array.getElem?_eq_some_iff.1 kG4.out).1).trans kG4.out
  have kF5 : Hid _ := (hb5.out.block _ (Array.getElem?_eq_some_iff.1 kF4.out).1).trans kF4.out
  have gA5 : Hid _ := gA4.out.below hb5.out
  have hB5 : Hid _ := hB4.out.trans (hb5.out.mono hB4.out.size)
  have hl5 : Hid (LisAt _ _ lo _) := LisAt.next hl4.out hb5.out
  have hx5 : Hid (IntsAt w5.heap.size w5 xo [0, 1]) := (IntsAt.later hx4.out hb5.out).size
  clear g0 g1 g2 kF4 hl4 kG4 gA4 hB4 hb5 hx4
  obtain ⟨g0, g1, g2, _⟩ := cells_three_z kG5.out
  have hb6 : Below w5.heap.size w5 (w5.alloc (Obj.cells #[Value.int .i64 9] 3)) := (Below.refl _ w5).alloc (Nat.le_refl _) _
  have hn6 : Hid _ := ints_new w5 [9] 3
  have kF6 : Hid _ := (hb6.block _ (Array.getElem?_eq_some_iff.1 kF5.out).1).trans kF5.out
  have gA6 : Hid _ := gA5.out.below hb6
  have hB6 : Hid _ := hB5.out.trans (hb6.mono hB5.out.size)
  have hl6 : Hid (LisAt _ _ lo _) := LisAt.next hl5.out hb6
  have hx6 : Hid (IntsAt _ _ xo _) := (IntsAt.later hx5.out hb6).size
  clear kF5 hl5 kG5 gA5 hB5 hx5
  go_wp2_with (go_at_call 11; fail)
  refine Calls.mono (fof_is fgm ⟨ta, tc, na, nc, ra, rc⟩ [9] _ 1 1 _ HML.out gA6.out.at hn6.out (by decide) (by decide) (by rw [fw9]; rfl)) ?_
  rintro e w7 ⟨zo, zc, rfl, _, hb7⟩
  clear g0 g1 g2 hn6
  have kF7 : Hid _ := (hb7.out.block _ (Array.getElem?_eq_some_iff.1 kF6.out).1).trans kF6.out
  have hB7 : Hid _ := hB6.out.trans (hb7.out.mono hB6.out.size)
  have hl7 : Hid (LisAt _ _ lo _) := LisAt.next hl6.out hb7.out
  have hx7 : Hid (IntsAt w7.heap.size w7 xo [0, 1]) := (IntsAt.later hx6.out hb7.out).size
  clear kF6 hl6 gA6 hB6 hx6 hb7 hb6
  obtain ⟨f0, f1, _⟩ := cells_two_z kF7.out
  have hb8 : Hid (Below w7.heap.size w7 (((((w7.alloc (Obj.cells #[Value.int .i64 0] 3)).alloc (Obj.cells #[Value.int .i64 1] 3)).alloc (Obj.cells #[Value.int .i64 0, Value.int .i64 1] 3)).alloc (Obj.cells #[Value.int .i64 1] 3)).alloc (Obj.cells #[.slice (some ⟨w7.heap.size, 0, none⟩) 1 1, .slice (some ⟨w7.heap.size + 1, 0, none⟩) 1 1, .slice (some ⟨w7.heap.size + 2, 0, none⟩) 2 2, .slice (some ⟨w7.heap.size + 3, 0, none⟩) 1 1] 32))) := by
    refine ((((Below.alloc (Below.refl _ w7) (Nat.le_refl _) _).alloc ?_ _).alloc ?_ _).alloc ?_ _).alloc ?_ _ <;> (first | (simp; done) | (simp; omega))
  have hk0 : Hid ((((((w7.alloc (Obj.cells #[Value.int .i64 0] 3)).alloc (Obj.cells #[Value.int .i64 1] 3)).alloc (Obj.cells #[Value.int .i64 0, Value.int .i64 1] 3)).alloc (Obj.cells #[Value.int .i64 1] 3)).alloc (Obj.cells #[.slice (some ⟨w7.heap.size, 0, none⟩) 1 1, .slice (some ⟨w7.heap.size + 1, 0, none⟩) 1 1, .slice (some ⟨w7.heap.size + 2, 0, none⟩) 2 2, .slice (some ⟨w7.heap.size + 3, 0, none⟩) 1 1] 32)).heap = w7.heap ++ #[Obj.cells #[Value.int .i64 0] 3, Obj.cells #[Value.int .i64 1] 3, Obj.cells #[Value.int .i64 0, Value.int .i64 1] 3, Obj.cells #[Value.int .i64 1] 3, Obj.cells #[.slice (some ⟨w7.heap.size, 0, none⟩) 1 1, .slice (some ⟨w7.heap.size + 1, 0, none⟩) 1 1, .slice (some ⟨w7.heap.size + 2, 0, none⟩) 2 2, .slice (some ⟨w7.heap.size + 3, 0, none⟩) 1 1] 32]) := by
    show _ = _
    simp only [World.alloc]
    apply Array.toList_inj.1
    simp
  have hL9 : Hid (LisAt (((((w7.alloc (Obj.cells #[Value.int .i64 0] 3)).alloc (Obj.cells #[Value.int .i64 1] 3)).alloc (Obj.cells #[Value.int .i64 0, Value.int .i64 1] 3)).alloc (Obj.cells #[Value.int .i64 1] 3)).alloc (Obj.cells #[.slice (some ⟨w7.heap.size, 0, none⟩) 1 1, .slice (some ⟨w7.heap.size + 1, 0, none⟩) 1 1, .slice (some ⟨w7.heap.size + 2, 0, none⟩) 2 2, .slice (some ⟨w7.heap.size + 3, 0, none⟩) 1 1] 32)).heap.size (((((w7.alloc (Obj.cells #[Value.int .i64 0] 3)).alloc (Obj.cells #[Value.int .i64 1] 3)).alloc (Obj.cells #[Value.int .i64 0, Value.int .i64 1] 3)).alloc (Obj.cells #[Value.int .i64 1] 3)).alloc (Obj.cells #[.slice (some ⟨w7.heap.size, 0, none⟩) 1 1, .slice (some ⟨w7.heap.size + 1, 0, none⟩) 1 1, .slice (some ⟨w7.heap.size + 2, 0, none⟩) 2 2, .slice (some ⟨w7.heap.size + 3, 0, none⟩) 1 1] 32)) (some ⟨w7.heap.size + 4, 0, none⟩) [[0], [1], [0, 1], [1]]) := by
    have hk1 := hk0.out
    generalize (((((w7.alloc (Obj.cells #[Value.int .i64 0] 3)).alloc (Obj.cells #[Value.int .i64 1] 3)).alloc (Obj.cells #[Value.int .i64 0, Value.int .i64 1] 3)).alloc (Obj.cells #[Value.int .i64 1] 3)).alloc (Obj.cells #[.slice (some ⟨w7.heap.size, 0, none⟩) 1 1, .slice (some ⟨w7.heap.size + 1, 0, none⟩) 1 1, .slice (some ⟨w7.heap.size + 2, 0, none⟩) 2 2, .slice (some ⟨w7.heap.size + 3, 0, none⟩) 1 1] 32)) = W9 at *
    have q0 : W9.heap[w7.heap.size]? = some (.cells (([0] : List Int).map (Value.int .i64)).toArray 3 (0, 0)) := by rw [hk1]; simp
    have q1 : W9.heap[w7.heap.size + 1]? = some (.cells (([1] : List Int).map (Value.int .i64)).toArray 3 (0, 0)) := by rw [hk1]; simp
    have q2 : W9.heap[w7.heap.size + 2]? = some (.cells (([0, 1] : List Int).map (Value.int .i64)).toArray 3 (0, 0)) := by rw [hk1]; simp
    have q3 : W9.heap[w7.heap.size + 3]? = some (.cells (([1] : List Int).map (Value.int .i64)).toArray 3 (0, 0)) := by rw [hk1]; simp
    have q4 : W9.heap[w7.heap.size + 4]? = some (.cells #[.slice (some ⟨w7.heap.size, 0, none⟩) 1 1, .slice (some ⟨w7.heap.size + 1, 0, none⟩) 1 1, .slice (some ⟨w7.heap.size + 2, 0, none⟩) 2 2, .slice (some ⟨w7.heap.size + 3, 0, none⟩) 1 1] 32 (0, 0)) := by rw [hk1]; simp
    have hlt := (Array.getElem?_eq_some_iff.1 q4).1
    intro i hi
    have hi4 : i < 4 := hi
    obtain rfl | rfl | rfl | rfl : i = 0 ∨ i = 1 ∨ i = 2 ∨ i = 3 := by omega
    · exact ⟨w7.heap.size + 4, 0, some ⟨w7.heap.size, 0, none⟩, 1, rfl, hlt, hlt, by simp [World.cell?, q4], ints_block q0⟩
    · exact ⟨w7.heap.size + 4, 0, some ⟨w7.heap.size + 1, 0, none⟩, 1, rfl, hlt, hlt, by simp [World.cell?, q4], ints_block q1⟩
    · exact ⟨w7.heap.size + 4, 0, some ⟨w7.heap.size + 2, 0, none⟩, 2, rfl, hlt, hlt, by simp [World.cell?, q4], ints_block q2⟩
    · exact ⟨w7.heap.size + 4, 0, some ⟨w7.heap.size + 3, 0, none⟩, 1, rfl, hlt, hlt, by simp [World.cell?, q4], ints_block q3⟩
  have hA9 : Hid (LisAt _ _ lo _) := LisAt.next hl7.out hb8.out
  have hx9 : Hid (IntsAt _ _ xo _) := (IntsAt.later hx7.out hb8.out).size
  have hB9 : Hid _ := hB7.out.trans (hb8.out.mono hB7.out.size)
  clear hl7 hx7 hb8 hk0
  go_wp2_with (go_at_call 22; fail)
  generalize (((((w7.alloc (Obj.cells #[Value.int .i64 0] 3)).alloc (Obj.cells #[Value.int .i64 1] 3)).alloc (Obj.cells #[Value.int .i64 0, Value.int .i64 1] 3)).alloc (Obj.cells #[Value.int .i64 1] 3)).alloc (Obj.cells #[.slice (some ⟨w7.heap.size, 0, none⟩) 1 1, .slice (some ⟨w7.heap.size + 1, 0, none⟩) 1 1, .slice (some ⟨w7.heap.size + 2, 0, none⟩) 2 2, .slice (some ⟨w7.heap.size + 3, 0, none⟩) 1 1] 32)) = W9 at *
  have HKL : Hid _ := keepLists_same [[0], [1], [0, 1], [1]] (by decide) (by decide) lo (some ⟨w7.heap.size + 4, 0, none⟩) lc 4 W9 hA9.out hL9.out
  refine Calls.mono HKL.out ?_
  rintro e w10 ⟨rfl, hb10⟩
  have hx10 : Hid (IntsAt w10.heap.size w10 xo [0, 1]) := (IntsAt.later hx9.out hb10).size
  have hB10 : Hid _ := hB9.out.trans (hb10.mono hB9.out.size)
  clear hx9 hB9 hb10 hA9 hL9 HKL f0 f1
  have hb11 : Below w10.heap.size w10 (w10.alloc (Obj.cells #[Value.int .i64 0, Value.int .i64 1] 3)) := (Below.refl _ w10).alloc (Nat.le_refl _) _
  have hn11 : Hid (IntsAt _ _ _ _) := ints_new w10 [0, 1] 3
  have hx11 : Hid (IntsAt _ _ xo _) := (IntsAt.later hx10.out hb11).size
  have hB11 : Hid _ := hB10.out.trans (hb11.mono hB10.out.size)
  clear hx10 hB10 hb11
  go_wp2_with (go_at_call 24; fail)
  refine Calls.mono (keepInts_same [0, 1] (by decide) xo (some ⟨w10.heap.size, 0, none⟩) xc 2 _ hx11.out hn11.out) ?_
  rintro e w12 ⟨rfl, n, rfl⟩
  go_wp2_with fail
  go_ret
  exact ⟨rfl, below_drewN hB11.out n⟩
end Go.Proofs.YtfamhdpiomhjlaaGreat
