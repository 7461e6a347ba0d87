/-
  The laws of layer 9: wakes: when a law of layer 9 looks at nothing but its own example.
-/
import Derived.Test.YtdocbgfpnaiijaaGreatFoSets
import Derived.Test.YtdocbgfpnaiijaaGreatFiSets
import Derived.Test.YtdocbgfpnaiijaaGreatKeepLists
import Derived.Test.YtdocbgfpnaiijaaGreatKeepBools
import Derived.Test.YtdocbgfpnaiijaaGreatGrTop
import Derived.Test.YtdocbgfpnaiijaaGreatGrKeeps
import Derived.Test.YtdocbgfpnaiijaaGreatGrOpen
import Derived.OpenShut
namespace Go.Proofs.YtdocbgfpnaiijaaGreat
open Go.RowKit Go.Conc

def fogm : Gr.Gm := ⟨[⟨#[98]⟩, ⟨#[97]⟩], [⟨#[83]⟩, ⟨#[65]⟩], [(2, [3, 0]), (2, [3]), (3, [1]), (3, [])]⟩
theorem fow1 : Hid (ofS (⟨#[83, 32, 61, 32, 65, 32, 39, 98, 39, 32, 124, 32, 65, 32, 59, 32, 65, 32, 61, 32, 39, 97, 39, 32, 124, 32, 59]⟩ : ByteArray).data.toList = (0, 0, fogm)) := by show _ = _; kernel_rfl
theorem fogood : Gr.good fogm = true := by kernel_rfl
theorem fow2 : Nl.of fogm = [false, false, true, true] := by
  unfold Nl.of
  rw [if_pos fogood, ← Nl.rounds_is (Nl.fit_of fogood) (k := 4) (by decide)]
  kernel_rfl
theorem fob1 : Fi.Beg fogm.rules [false, false, true, true] 2 0 0 := .own 0 (by decide) (by decide)
theorem fow3 : Fi.tab fogm = [[true, false], [false, true], [true, true], [false, true]] := by
  unfold Fi.tab
  rw [fow2]
  have hsh : Fi.Shape 4 2 [[true, false], [false, true], [true, true], [false, true]] := ⟨rfl, fun r hr => by simp at hr; rcases hr with rfl | rfl | rfl | rfl <;> rfl⟩
  have hcl : ∀ t : Int, 0 ≤ t → t < 2 → ∀ r ∈ fogm.rules, ∀ x ∈ Fi.heads [false, false, true, true] r.2, Fi.has [[true, false], [false, true], [true, true], [false, true]] x t = true → Fi.has [[true, false], [false, true], [true, true], [false, true]] r.1 t = true := by
    intro t h0 h1
    obtain rfl | rfl : t = 0 ∨ t = 1 := by omega
    · decide
    · decide
  refine (Fi.rows_is hsh (fun s t h => ?_) (fun t h0 h1 => ?_) fun r hr x hx t h => ?_).symm
  · obtain ⟨⟨s0, s1⟩, t0, t1⟩ := hsh.lt h
    have b0 : Fi.Beg fogm.rules [false, false, true, true] 2 0 0 := .own 0 (by decide) (by decide)
    have b1 : Fi.Beg fogm.rules [false, false, true, true] 2 1 1 := .own 1 (by decide) (by decide)
    have b2 : Fi.Beg fogm.rules [false, false, true, true] 2 3 1 := .up (3, [1]) (by simp [fogm]) 1 (by simp [Fi.heads]) 1 b1
    have b3 : Fi.Beg fogm.rules [false, false, true, true] 2 2 1 := .up (2, [3, 0]) (by simp [fogm]) 3 (by simp [Fi.heads]) 1 b2
    have b4 : Fi.Beg fogm.rules [false, false, true, true] 2 2 0 := .up (2, [3, 0]) (by simp [fogm]) 0 (by decide) 0 b0
    obtain rfl | rfl | rfl | rfl : s = 0 ∨ s = 1 ∨ s = 2 ∨ s = 3 := by omega
    all_goals
      obtain rfl | rfl : t = 0 ∨ t = 1 := by omega
      all_goals first | assumption | (exact absurd h (by decide))
  · obtain rfl | rfl : t = 0 ∨ t = 1 := by have : t < 2 := h1; omega
    · decide
    · decide
  · have := hsh.lt h
    exact hcl t this.2.1 this.2.2 r hr x hx h
theorem fow4 : Fo.tabG fogm = [[false, false, false, false, true], [true, false, false, false, true]] := by
  unfold Fo.tabG
  rw [fow2]
  have hsh : Fi.Shape 2 5 [[false, false, false, false, true], [true, false, false, false, true]] := ⟨rfl, fun r hr => by simp at hr; rcases hr with rfl | rfl <;> rfl⟩
  have h1 : ∀ r ∈ fogm.rules, ∀ k ∈ List.range 2, k < r.2.length → (2 : Int) ≤ r.2.getD k 0 → ∀ y ∈ Fi.heads [false, false, true, true] (r.2.drop (k + 1)), ∀ v ∈ [(0 : Int), 1], Fi.has [[true, false], [false, true], [true, true], [false, true]] y v = true → Fi.has [[false, false, false, false, true], [true, false, false, false, true]] (r.2.getD k 0 - 2) v = true := by decide
  have h2 : ∀ r ∈ fogm.rules, ∀ k ∈ List.range 2, k < r.2.length → (2 : Int) ≤ r.2.getD k 0 → Nl.allIn [false, false, true, true] (r.2.drop (k + 1)) = true → ∀ v ∈ [(0 : Int), 1, 2, 3, 4], Fi.has [[false, false, false, false, true], [true, false, false, false, true]] (r.1 - 2) v = true → Fi.has [[false, false, false, false, true], [true, false, false, false, true]] (r.2.getD k 0 - 2) v = true := by decide
  have hlen : ∀ r ∈ fogm.rules, r.2.length ≤ 2 := by decide
  refine (Fo.tab_is hsh fun s t => ⟨fun h => ?_, fun h => ?_⟩).symm
  · obtain ⟨⟨s0, s1⟩, t0, t1⟩ := hsh.lt h
    have f0 : Fo.Fol fogm.rules [false, false, true, true] 2 4 0 4 := .base _ _ (.inl ⟨rfl, rfl⟩)
    have f1 : Fo.Fol fogm.rules [false, false, true, true] 2 4 1 0 := .base _ _ (.inr ⟨0, [0], ⟨(2, [3, 0]), by simp [fogm], 0, by decide, by decide, rfl, rfl, rfl⟩, 0, by decide, fob1⟩)
    have f2 : Fo.Fol fogm.rules [false, false, true, true] 2 4 1 4 := .step 0 1 4 ⟨[], ⟨(2, [3]), by simp [fogm], 0, by decide, by decide, rfl, rfl, rfl⟩, rfl⟩ f0
    obtain rfl | rfl : s = 0 ∨ s = 1 := by omega
    all_goals
      obtain rfl | rfl | rfl | rfl | rfl : t = 0 ∨ t = 1 ∨ t = 2 ∨ t = 3 ∨ t = 4 := by omega
      all_goals first | exact f0 | exact f1 | exact f2 | (exact absurd h (by decide))
  · refine Fo.Reach.all (P := fun s t => Fi.has [[false, false, false, false, true], [true, false, false, false, true]] s t = true) (fun x v q => ?_) (fun a b v e q => ?_) h
    · rcases q with ⟨rfl, rfl⟩ | ⟨l, rest, ⟨r, hr, k, hk, hx, rfl, rfl, rfl⟩, y, hy, hb⟩
      · decide
      · have hk2 := hlen r hr
        have hd : r.2.getD k 0 = r.2[k] := by simp [List.getD_eq_getElem?_getD, hk]
        have hyb := (Nl.fit_of fogood).right r hr y (List.mem_of_mem_drop (Fi.heads_mem hy))
        have ht := hb.term
        have hh : Fi.has [[true, false], [false, true], [true, true], [false, true]] y v = true := by
          rw [← fow3]
          unfold Fi.tab
          rw [fow2]
          exact (Fi.rows_has hyb.1 hyb.2).2 hb
        have hv2 : v < 2 := ht.2
        have hv3 : v = 0 ∨ v = 1 := by omega
        have := h1 r hr k (by rw [List.mem_range]; omega) hk (by rw [hd]; exact hx) y hy v (by simpa using hv3) hh
        rw [hd] at this; exact this
    · obtain ⟨rest, ⟨r, hr, k, hk, hx, rfl, rfl, rfl⟩, hall⟩ := e
      have hk2 := hlen r hr
      have hd : r.2.getD k 0 = r.2[k] := by simp [List.getD_eq_getElem?_getD, hk]
      have hv := (hsh.lt q).2
      have hv2 : v < 5 := hv.2
      have hv3 : v = 0 ∨ v = 1 ∨ v = 2 ∨ v = 3 ∨ v = 4 := by omega
      have := h2 r hr k (by rw [List.mem_range]; omega) hk (by rw [hd]; exact hx) hall v (by simpa using hv3) q
      rw [hd] at this; exact this
theorem fow5 : Fo.setsG fogm = [[4], [0, 4]] := by
  unfold Fo.setsG
  rw [if_pos fogood, fow4]
  kernel_rfl
theorem fow6 : Fo.okN fogm 3 = true := by kernel_rfl
theorem fow7 : Fo.ofN fogm 3 = [0, 4] := by
  unfold Fo.ofN
  rw [if_pos fow6, fow4]
  kernel_rfl
theorem fow8 : Fo.okN fogm 0 = false := by kernel_rfl
theorem fow9 : Fo.lastG fogm = [true, true] := by
  unfold Fo.lastG
  rw [if_pos fogood, fow4]
  kernel_rfl
theorem ints_block9 {w : World} {b : Nat} {xs : List Int} {t : TypeId} (h : w.heap[b]? = some (.cells (xs.map (Value.int .i64)).toArray t (0, 0))) : IntsAt w.heap.size w (some ⟨b, 0, none⟩) xs := by
  have hlt := (Array.getElem?_eq_some_iff.1 h).1
  intro i hi
  have hi' : i < xs.length := by simpa using hi
  refine ⟨b, 0, rfl, hlt, hlt, ?_⟩
  simp [World.cell?, h, hi']

set_option maxRecDepth 100000 in
set_option maxHeartbeats 3200000 in
theorem fowakes_any (w : World) : Calls Tryz.prog 8 #[] w fun e w' => e = .returned (.bool true) ∧ Below w.heap.size w w' := by
  have hm4 : ∀ x ∈ fogm.rules, x.2.length ≤ 4000 := by intro x hx; simp [fogm] at hx; rcases hx with rfl | rfl | rfl | rfl <;> simp
  have hml : ∀ x ∈ fogm.rules, x.2.length ≤ maxLen := fun x hx => Nat.le_trans (hm4 x hx) (by unfold maxLen; omega)
  have HM4 : Hid _ := hm4
  have HML : Hid _ := hml
  clear hm4 hml
  go_enter Tryz.func8, Tryz.ntmps8
  go_wp2_with (go_at_call 25; fail)
  refine (of_is _ _ _ _ _ (by decide) fow1).mono ?_
  rintro e w1 ⟨⟨ta, tc, na, nc, ra, rc⟩, rfl, hb1, ho1⟩
  simp only [gmCells]
  have hbA : Hid (Below w1.heap.size w1 ((w1.alloc (Obj.cells #[.slice ta fogm.terms.length tc, .slice na fogm.names.length nc, .slice ra fogm.rules.length rc] 25)).alloc (Obj.cells #[.int .i64 0, .int .i64 0] 50))) := ((Below.refl _ w1).alloc (Nat.le_refl _) _).alloc (by simp) _
  have kG : Hid (((w1.alloc (Obj.cells #[.slice ta fogm.terms.length tc, .slice na fogm.names.length nc, .slice ra fogm.rules.length rc] 25)).alloc (Obj.cells #[.int .i64 0, .int .i64 0] 50)).heap[w1.heap.size]? = some (.cells #[.slice ta fogm.terms.length tc, .slice na fogm.names.length nc, .slice ra fogm.rules.length rc] 25 (0, 0))) := by
    show _ = _; rw [Below.heap_alloc _ _ _ (by simp)]; exact heap_alloc_new w1 _
  have kF : Hid (((w1.alloc (Obj.cells #[.slice ta fogm.terms.length tc, .slice na fogm.names.length nc, .slice ra fogm.rules.length rc] 25)).alloc (Obj.cells #[.int .i64 0, .int .i64 0] 50)).heap[w1.heap.size + 1]? = some (.cells #[.int .i64 0, .int .i64 0] 50 (0, 0))) := by
    show _ = _
    have := heap_alloc_new (w1.alloc (Obj.cells #[.slice ta fogm.terms.length tc, .slice na fogm.names.length nc, .slice ra fogm.rules.length rc] 25)) (Obj.cells #[.int .i64 0, .int .i64 0] 50)
    simpa using this
  have gA : Hid _ := ho1.out.below hbA.out
  have hB : Hid _ := hb1.out.trans (hbA.out.mono hb1.out.size)
  clear ho1 hb1 hbA
  go_wp2_with (go_at_call 10; fail)
  generalize ((w1.alloc (Obj.cells #[.slice ta fogm.terms.length tc, .slice na fogm.names.length nc, .slice ra fogm.rules.length rc] 25)).alloc (Obj.cells #[.int .i64 0, .int .i64 0] 50)) = W at *
  refine Calls.mono (fosets_is fogm ⟨ta, tc, na, nc, ra, rc⟩ W HML.out gA.out.at) ?_
  rintro e w2 ⟨lo, lc, rfl, hl2, hb2⟩
  rw [fow5] at hl2 ⊢
  simp only [List.length_cons, List.length_nil, Nat.zero_add, Nat.reduceAdd]
  have kG2 : Hid _ := (hb2.out.block _ (Array.getElem?_eq_some_iff.1 kG.out).1).trans kG.out
  have kF2 : Hid _ := (hb2.out.block _ (Array.getElem?_eq_some_iff.1 kF.out).1).trans kF.out
  have gA2 : Hid _ := gA.out.below hb2.out
  have hB2 : Hid _ := hB.out.trans (hb2.out.mono hB.out.size)
  clear kG kF gA hB hb2
  obtain ⟨g0, g1, g2, _⟩ := cells_three_z kG2.out
  have hgz := (Array.getElem?_eq_some_iff.1 kG2.out).1
  go_wp2_with (go_at_call 12; fail)
  refine Calls.mono (foof_is fogm ⟨ta, tc, na, nc, ra, rc⟩ 3 0 _ HML.out gA2.out.at (by rw [fow6]; rfl)) ?_
  rintro e w4 ⟨xo, xc, rfl, hx4, hb4⟩
  rw [fow7] at hx4 ⊢
  simp only [List.length_cons, List.length_nil, Nat.zero_add, Nat.reduceAdd]
  clear g0 g1 g2 hgz
  have kG4 : Hid _ := (hb4.out.block _ (Array.getElem?_eq_some_iff.1 kG2.out).1).trans kG2.out
  have kF4 : Hid _ := (hb4.out.block _ (Array.getElem?_eq_some_iff.1 kF2.out).1).trans kF2.out
  have gA4 : Hid _ := gA2.out.below hb4.out
  have hB4 : Hid _ := hB2.out.trans (hb4.out.mono hB2.out.size)
  have hl4 : Hid (LisAt _ _ lo _) := LisAt.next hl2.out hb4.out
  clear kF2 hl2 kG2 gA2 hB2 hb4
  obtain ⟨g0, g1, g2, _⟩ := cells_three_z kG4.out
  have hgz := (Array.getElem?_eq_some_iff.1 kG4.out).1
  go_wp2_with (go_at_call 12; fail)
  refine Calls.mono (foof_is fogm ⟨ta, tc, na, nc, ra, rc⟩ 0 1 _ HML.out gA4.out.at (by rw [fow8]; rfl)) ?_
  rintro e w5 ⟨yo, yc, rfl, _, hb5⟩
  clear g0 g1 g2 hgz
  have kG5 : Hid _ := (hb5.out.block _ (Array.getElem?_eq_some_iff.1 kG4.out).1).trans kG4.out
  have kF5 : Hid _ := (hb5.out.block _ (Array.getElem?_eq_some_iff.1 kF4.out).1).trans kF4.out
  have gA5 : Hid _ := gA4.out.below hb5.out
  have hB5 : Hid _ := hB4.out.trans (hb5.out.mono hB4.out.size)
  have hl5 : Hid (LisAt _ _ lo _) := LisAt.next hl4.out hb5.out
  have hx5 : Hid (IntsAt w5.heap.size w5 xo [0, 4]) := (IntsAt.later hx4.out hb5.out).size
  clear kF4 hl4 kG4 gA4 hB4 hb5 hx4
  obtain ⟨f0, f1, _⟩ := cells_two_z kF5.out
  have hfz := (Array.getElem?_eq_some_iff.1 kF5.out).1
  have hb8 : Hid (Below w5.heap.size w5 (((w5.alloc (Obj.cells #[Value.int .i64 4] 3)).alloc (Obj.cells #[Value.int .i64 0, Value.int .i64 4] 3)).alloc (Obj.cells #[.slice (some ⟨w5.heap.size, 0, none⟩) 1 1, .slice (some ⟨w5.heap.size + 1, 0, none⟩) 2 2] 31))) := by
    refine ((Below.alloc (Below.refl _ w5) (Nat.le_refl _) _).alloc ?_ _).alloc ?_ _ <;> (first | (simp; done) | (simp; omega))
  have hk0 : Hid ((((w5.alloc (Obj.cells #[Value.int .i64 4] 3)).alloc (Obj.cells #[Value.int .i64 0, Value.int .i64 4] 3)).alloc (Obj.cells #[.slice (some ⟨w5.heap.size, 0, none⟩) 1 1, .slice (some ⟨w5.heap.size + 1, 0, none⟩) 2 2] 31)).heap = w5.heap ++ #[Obj.cells #[Value.int .i64 4] 3, Obj.cells #[Value.int .i64 0, Value.int .i64 4] 3, Obj.cells #[.slice (some ⟨w5.heap.size, 0, none⟩) 1 1, .slice (some ⟨w5.heap.size + 1, 0, none⟩) 2 2] 31]) := by
    show _ = _
    simp only [World.alloc]
    apply Array.toList_inj.1
    simp
  have hL9 : Hid (LisAt (((w5.alloc (Obj.cells #[Value.int .i64 4] 3)).alloc (Obj.cells #[Value.int .i64 0, Value.int .i64 4] 3)).alloc (Obj.cells #[.slice (some ⟨w5.heap.size, 0, none⟩) 1 1, .slice (some ⟨w5.heap.size + 1, 0, none⟩) 2 2] 31)).heap.size (((w5.alloc (Obj.cells #[Value.int .i64 4] 3)).alloc (Obj.cells #[Value.int .i64 0, Value.int .i64 4] 3)).alloc (Obj.cells #[.slice (some ⟨w5.heap.size, 0, none⟩) 1 1, .slice (some ⟨w5.heap.size + 1, 0, none⟩) 2 2] 31)) (some ⟨w5.heap.size + 2, 0, none⟩) [[4], [0, 4]]) := by
    have hk1 := hk0.out
    generalize (((w5.alloc (Obj.cells #[Value.int .i64 4] 3)).alloc (Obj.cells #[Value.int .i64 0, Value.int .i64 4] 3)).alloc (Obj.cells #[.slice (some ⟨w5.heap.size, 0, none⟩) 1 1, .slice (some ⟨w5.heap.size + 1, 0, none⟩) 2 2] 31)) = W9 at *
    have q0 : W9.heap[w5.heap.size]? = some (.cells (([4] : List Int).map (Value.int .i64)).toArray 3 (0, 0)) := by rw [hk1]; simp
    have q1 : W9.heap[w5.heap.size + 1]? = some (.cells (([0, 4] : List Int).map (Value.int .i64)).toArray 3 (0, 0)) := by rw [hk1]; simp
    have q4 : W9.heap[w5.heap.size + 2]? = some (.cells #[.slice (some ⟨w5.heap.size, 0, none⟩) 1 1, .slice (some ⟨w5.heap.size + 1, 0, none⟩) 2 2] 31 (0, 0)) := by rw [hk1]; simp
    have hlt := (Array.getElem?_eq_some_iff.1 q4).1
    intro i hi
    have hi4 : i < 2 := hi
    obtain rfl | rfl : i = 0 ∨ i = 1 := by omega
    · exact ⟨w5.heap.size + 2, 0, some ⟨w5.heap.size, 0, none⟩, 1, rfl, hlt, hlt, by simp [World.cell?, q4], ints_block9 q0⟩
    · exact ⟨w5.heap.size + 2, 0, some ⟨w5.heap.size + 1, 0, none⟩, 2, rfl, hlt, hlt, by simp [World.cell?, q4], ints_block9 q1⟩
  have hA9 : Hid (LisAt _ _ lo _) := LisAt.next hl5.out hb8.out
  have hx9 : Hid (IntsAt _ _ xo _) := (IntsAt.later hx5.out hb8.out).size
  have gA9 : Hid _ := gA5.out.below hb8.out
  have kG9 : Hid _ := (hb8.out.block _ (Array.getElem?_eq_some_iff.1 kG5.out).1).trans kG5.out
  have hB9 : Hid _ := hB5.out.trans (hb8.out.mono hB5.out.size)
  clear hl5 hx5 hb8 hk0 gA5 kG5 hB5
  go_wp2_with (go_at_call 14; fail)
  generalize (((w5.alloc (Obj.cells #[Value.int .i64 4] 3)).alloc (Obj.cells #[Value.int .i64 0, Value.int .i64 4] 3)).alloc (Obj.cells #[.slice (some ⟨w5.heap.size, 0, none⟩) 1 1, .slice (some ⟨w5.heap.size + 1, 0, none⟩) 2 2] 31)) = W9 at *
  have HKL : Hid _ := keepLists_same [[4], [0, 4]] (by decide) (by decide) lo (some ⟨w5.heap.size + 2, 0, none⟩) lc 2 W9 hA9.out hL9.out
  refine Calls.mono HKL.out ?_
  rintro e w10 ⟨rfl, hb10⟩
  have hx10 : Hid (IntsAt w10.heap.size w10 xo [0, 4]) := (IntsAt.later hx9.out hb10).size
  have gA10 : Hid _ := gA9.out.below hb10
  have kG10 : Hid _ := (hb10.block _ (Array.getElem?_eq_some_iff.1 kG9.out).1).trans kG9.out
  have hB10 : Hid _ := hB9.out.trans (hb10.mono hB9.out.size)
  clear hx9 hB9 hb10 hA9 hL9 HKL f0 f1 gA9 kG9 hfz
  have hb11 : Below w10.heap.size w10 (w10.alloc (Obj.cells #[Value.int .i64 0, Value.int .i64 4] 3)) := (Below.refl _ w10).alloc (Nat.le_refl _) _
  have hn11 : Hid (IntsAt (w10.alloc (Obj.cells #[Value.int .i64 0, Value.int .i64 4] 3)).heap.size (w10.alloc (Obj.cells #[Value.int .i64 0, Value.int .i64 4] 3)) (some ⟨w10.heap.size, 0, none⟩) [0, 4]) := ints_new w10 [0, 4] 3
  have hx11 : Hid (IntsAt _ _ xo _) := (IntsAt.later hx10.out hb11).size
  have gA11 : Hid _ := gA10.out.below hb11
  have kG11 : Hid _ := (hb11.block _ (Array.getElem?_eq_some_iff.1 kG10.out).1).trans kG10.out
  have hB11 : Hid _ := hB10.out.trans (hb11.mono hB10.out.size)
  clear hx10 hB10 hb11 gA10 kG10
  go_wp2_with (go_at_call 16; fail)
  generalize (w10.alloc (Obj.cells #[Value.int .i64 0, Value.int .i64 4] 3)) = W11 at *
  refine Calls.mono (keepInts_same [0, 4] (by decide) xo (some ⟨w10.heap.size, 0, none⟩) xc 2 _ hx11.out hn11.out) ?_
  rintro e w12 ⟨rfl, nd, rfl⟩
  have hb12 : Below W11.heap.size W11 (W11.drewN nd) := below_drewN (Below.refl _ _) nd
  have gA12 : Hid _ := gA11.out.below hb12
  have kG12 : Hid ((W11.drewN nd).heap[w1.heap.size]? = some (.cells #[.slice ta fogm.terms.length tc, .slice na fogm.names.length nc, .slice ra fogm.rules.length rc] 25 (0, 0))) := (hb12.block _ (Array.getElem?_eq_some_iff.1 kG11.out).1).trans kG11.out
  have hB12 : Hid _ := hB11.out.trans (hb12.mono hB11.out.size)
  clear gA11 kG11 hB11 hb12 hn11 hx11
  generalize W11.drewN nd = W12 at *
  obtain ⟨g0, g1, g2, _⟩ := cells_three_z kG12.out
  have hgz := (Array.getElem?_eq_some_iff.1 kG12.out).1
  go_wp2_with (go_at_call 13; fail)
  refine Calls.mono (folast_is fogm ⟨ta, tc, na, nc, ra, rc⟩ _ HML.out gA12.out.at) ?_
  rintro e w13 ⟨zo, zc, rfl, hz13, hb13⟩
  rw [fow9] at hz13 ⊢
  simp only [List.length_cons, List.length_nil, Nat.zero_add, Nat.reduceAdd]
  have hB13 : Hid _ := hB12.out.trans (hb13.out.mono hB12.out.size)
  clear g0 g1 g2 hgz gA12 kG12 hB12 hb13
  have hb14 : Below w13.heap.size w13 (w13.alloc (Obj.cells #[Value.bool true, Value.bool true] 4)) := (Below.refl _ w13).alloc (Nat.le_refl _) _
  have hn14 : Hid (BoolsAt _ _ _ _) := bools_new w13 [true, true] 4
  have hz14 : Hid (BoolsAt _ _ zo _) := BoolsAt.size (BoolsAt.later hz13.out hb14)
  have hB14 : Hid _ := hB13.out.trans (hb14.mono hB13.out.size)
  clear hz13 hB13 hb14
  go_wp2_with (go_at_call 26; fail)
  refine Calls.mono (keepBools_is true [true, true] [true, true] (by decide) zo (some ⟨w13.heap.size, 0, none⟩) zc 2 _ hz14.out hn14.out rfl rfl) ?_
  rintro e w15 ⟨rfl, hb15⟩
  go_wp2_with fail
  go_ret
  exact ⟨rfl, hB14.out.trans (hb15.mono hB14.out.size)⟩

/-- is a grammar light? -/
def Fo.light (g : Gr.Gm) : Bool := decide (g.rules.length ≤ 20) && decide (g.names.length ≤ 12)
set_option maxHeartbeats 1600000 in
theorem small9_is (r : Bool) (g : Gr.Gm) (A : GA) (w : World) (hr : Fo.light g = r) :
    Calls Tryz.prog 7 #[.agg (gmCells g A)] w fun e w' => e = .returned (.bool r) ∧ Below w.heap.size w w' := by
  obtain ⟨ta, tc, na, nc, ra, rac⟩ := A
  have HR : Hid _ := hr
  have hbW : Hid (Below w.heap.size w (w.alloc (Obj.cells #[.slice ta g.terms.length tc, .slice na g.names.length nc, .slice ra g.rules.length rac] 25))) := (Below.refl _ w).alloc (Nat.le_refl _) _
  clear hr
  simp only [gmCells]
  go_enter Tryz.func7, Tryz.ntmps7
  by_cases h1 : g.rules.length ≤ 20
  · have h1i : (g.rules.length : Int) ≤ 20 := by omega
    by_cases h2 : g.names.length ≤ 12
    · have h2i : (g.names.length : Int) ≤ 12 := by omega
      have R : Hid (r = true) := by show _ = _; rw [← HR.out]; simp [Fo.light, h1, h2]
      go_wp2_with fail
      go_ret
      rw [R.out]
      exact ⟨rfl, hbW.out⟩
    · have h2i : ¬ (g.names.length : Int) ≤ 12 := by omega
      have R : Hid (r = false) := by show _ = _; rw [← HR.out]; simp [Fo.light, h2]
      go_wp2_with fail
      go_ret
      rw [R.out]
      exact ⟨rfl, hbW.out⟩
  · have h1i : ¬ (g.rules.length : Int) ≤ 20 := by omega
    have R : Hid (r = false) := by show _ = _; rw [← HR.out]; simp [Fo.light, h1]
    go_wp2_with fail
    go_ret
    rw [R.out]
    exact ⟨rfl, hbW.out⟩

/-! what the sets hold -/
theorem Fo.setsG_len {g : Gr.Gm} (hg : Gr.good g = true) : (Fo.setsG g).length = g.names.length := by
  unfold Fo.setsG; rw [if_pos hg, List.length_map, (Fo.tabG_shape g).len]
theorem Fo.setsG_get {g : Gr.Gm} (hg : Gr.good g = true) (s : Nat) (hs : s < g.names.length) : (Fo.setsG g).getD s [] = Fi.rise ((Fo.tabG g).getD s []) := by
  have hl : s < (Fo.tabG g).length := by rw [(Fo.tabG_shape g).len]; exact hs
  unfold Fo.setsG
  rw [if_pos hg]
  simp [List.getD_eq_getElem?_getD, hl]
theorem Fo.fol_lt {g : Gr.Gm} (hg : Gr.good g = true) {x v : Int} (h : Fo.Fol g.rules (Nl.of g) g.terms.length (g.terms.length + g.names.length) x v) : (0 ≤ x ∧ x < g.names.length) ∧ 0 ≤ v ∧ (v < g.terms.length ∨ v = ((g.terms.length + g.names.length : Nat) : Int)) :=
  Fo.Fol.lt (Nl.fit_of hg) rfl (by have := (Nl.sizes_of hg).1; omega) h
/-- what stands behind a nonterminal, told -/
theorem Fo.setsG_mem {g : Gr.Gm} (hg : Gr.good g = true) (s : Nat) (hs : s < g.names.length) (v : Int) : v ∈ (Fo.setsG g).getD s [] ↔ Fo.Fol g.rules (Nl.of g) g.terms.length (g.terms.length + g.names.length) (s : Int) v := by
  have e : Nl.isAt ((Fo.tabG g).getD s []) v = Fi.has (Fo.tabG g) (s : Int) v := by simp [Fi.has, Fi.row]
  rw [Fo.setsG_get hg s hs, Fi.mem_rise, e]
  unfold Fo.tabG
  rw [Fo.tab_has]
  constructor
  · exact fun h => h.2.2
  · intro h
    have := Fo.fol_lt hg h
    exact ⟨this.1, by omega, h⟩
theorem Fo.setsG_in {g : Gr.Gm} (hg : Gr.good g = true) (s : Nat) (hs : s < g.names.length) : ∀ v ∈ (Fo.setsG g).getD s [], 0 ≤ v ∧ (v < g.terms.length ∨ v = ((g.terms.length + g.names.length : Nat) : Int)) := fun v hv => (Fo.fol_lt hg ((Fo.setsG_mem hg s hs v).1 hv)).2
theorem Fo.setsG_short (g : Gr.Gm) : ∀ x ∈ Fo.setsG g, x.length ≤ g.terms.length + g.names.length + 1 := by
  unfold Fo.setsG
  split
  · intro x hx
    obtain ⟨r, hr, rfl⟩ := List.mem_map.1 hx
    exact Nat.le_trans (Fi.riseTo_len _ _) (by rw [(Fo.tabG_shape g).each r hr]; exact Nat.le_refl _)
  · intro x hx; simp at hx
theorem Fo.setsG_sorted (g : Gr.Gm) : ∀ x ∈ Fo.setsG g, x.Pairwise (· < ·) := by
  unfold Fo.setsG
  split
  · intro x hx
    obtain ⟨r, hr, rfl⟩ := List.mem_map.1 hx
    exact Fi.rise_sorted _
  · intro x hx; simp at hx
theorem Fo.setsG_more {g h : Gr.Gm} (hg : Gr.good g = true) (hh : Gr.good h = true) (ht : h.terms.length = g.terms.length) (hn : h.names.length = g.names.length) (hr : ∀ r ∈ g.rules, r ∈ h.rules) (s : Nat) (hs : s < g.names.length) : ∀ t ∈ (Fo.setsG g).getD s [], t ∈ (Fo.setsG h).getD s [] := fun t q => by
  rw [Fo.setsG_mem hg s hs] at q
  rw [Fo.setsG_mem hh s (by rw [hn]; exact hs), ht, hn]
  exact q.more hr (Fi.le_more hg hh ht hn hr)
end Go.Proofs.YtdocbgfpnaiijaaGreat
