/-
  When a law of layer 7 looks at nothing but its own example.
-/
import Derived.Test.YtkcohemphaafkaaUsRefs
import Derived.Test.YtkcohemphaafkaaUsUse
import Derived.Test.YtkcohemphaafkaaGrTop
import Derived.Test.YtkcohemphaafkaaGrKeeps
import Derived.Test.YtkcohemphaafkaaGrOpen
import Derived.OpenShut
namespace Go.Proofs.Ytkcohemphaafkaa
open Go.RowKit Go.Conc

def ugm : Gr.Gm := ⟨[⟨#[120]⟩, ⟨#[97]⟩, ⟨#[98]⟩], [⟨#[83]⟩, ⟨#[65]⟩, ⟨#[66]⟩, ⟨#[67]⟩], [(3, [4, 0]), (3, [1, 5]), (4, [4, 2]), (5, []), (6, [3])]⟩
theorem uw1 : Hid (ofS (⟨#[83, 32, 61, 32, 65, 32, 39, 120, 39, 32, 124, 32, 39, 97, 39, 32, 66, 32, 59, 32, 65, 32, 61, 32, 65, 32, 39, 98, 39, 32, 59, 32, 66, 32, 61, 32, 59, 32, 67, 32, 61, 32, 83, 32, 59]⟩ : ByteArray).data.toList = (0, 0, ugm)) := by show _ = _; kernel_rfl
theorem ugood : Gr.good ugm = true := by kernel_rfl
theorem uw2 : Us.reach ugm 3 = [true, true, true, true, true, true, false] := by
  unfold Us.reach
  rw [if_pos ⟨ugood, by decide, by decide⟩]
  show Nl.nulls (Us.reachC ugm.rules 3) (ugm.terms.length + ugm.names.length) = _
  rw [← Nl.rounds_is (Us.fit_reach (Nl.fit_of ugood) ⟨by decide, by decide⟩) (k := 7) (by decide)]
  kernel_rfl
theorem uw3 : Us.prod ugm = [true, true, true, true, false, true, true] := by
  unfold Us.prod
  rw [if_pos ugood]
  show Nl.nulls (Us.prodC ugm.terms.length ugm.rules) (ugm.terms.length + ugm.names.length) = _
  rw [← Nl.rounds_is (Us.fit_prod (Nl.fit_of ugood) (by decide)) (k := 7) (by decide)]
  kernel_rfl
theorem uw4 : Us.use ugm = [false, true, false, true, false, true, false] := by
  unfold Us.use
  rw [if_pos ugood, uw3, if_pos (by decide)]
  show Nl.nulls (Us.reachC (Us.goods ugm [true, true, true, true, false, true, true]) (ugm.terms.length : Int)) (Us.all ugm) = _
  rw [← Nl.rounds_is (Us.fit_reach (Us.fit_goods ugood _) (Us.start_in ugood)) (k := 7) (by decide)]
  kernel_rfl
theorem uw5 : Us.reach ugm 7 = [] := Us.reach_no fun h => absurd h.2.2 (by decide)

set_option maxRecDepth 100000 in
set_option maxHeartbeats 3200000 in
theorem uwakes_any (w : World) : Calls Try.prog 7 #[] w fun e w' => e = .returned (.bool true) ∧ Below w.heap.size w w' := by
  have hml : ∀ x ∈ ugm.rules, x.2.length ≤ maxLen := by intro x hx; simp [ugm] at hx; rcases hx with rfl | rfl | rfl | rfl | rfl <;> (unfold maxLen; decide)
  have HML : Hid _ := hml
  clear hml
  go_enter Try.func7, Try.ntmps7
  go_wp2_with (go_at_call 18; fail)
  refine (of_is _ _ _ _ _ (by decide) uw1).mono ?_
  rintro e w1 ⟨⟨ta, tc, na, nc, ra, rc⟩, rfl, hb1, ho1⟩
  simp only [gmCells]
  have hbA : Hid (Below w1.heap.size w1 ((w1.alloc (Obj.cells #[.slice ta ugm.terms.length tc, .slice na ugm.names.length nc, .slice ra ugm.rules.length rc] 25)).alloc (Obj.cells #[.int .i64 0, .int .i64 0] 43))) := ((Below.refl _ w1).alloc (Nat.le_refl _) _).alloc (by simp) _
  have kG : Hid (((w1.alloc (Obj.cells #[.slice ta ugm.terms.length tc, .slice na ugm.names.length nc, .slice ra ugm.rules.length rc] 25)).alloc (Obj.cells #[.int .i64 0, .int .i64 0] 43)).heap[w1.heap.size]? = some (.cells #[.slice ta ugm.terms.length tc, .slice na ugm.names.length nc, .slice ra ugm.rules.length rc] 25 (0, 0))) := by
    show _ = _; rw [Below.heap_alloc _ _ _ (by simp)]; exact heap_alloc_new w1 _
  have kF : Hid (((w1.alloc (Obj.cells #[.slice ta ugm.terms.length tc, .slice na ugm.names.length nc, .slice ra ugm.rules.length rc] 25)).alloc (Obj.cells #[.int .i64 0, .int .i64 0] 43)).heap[w1.heap.size + 1]? = some (.cells #[.int .i64 0, .int .i64 0] 43 (0, 0))) := by
    show _ = _
    have := heap_alloc_new (w1.alloc (Obj.cells #[.slice ta ugm.terms.length tc, .slice na ugm.names.length nc, .slice ra ugm.rules.length rc] 25)) (Obj.cells #[.int .i64 0, .int .i64 0] 43)
    simpa using this
  have gA : Hid _ := ho1.out.below hbA.out
  have hB : Hid _ := hb1.out.trans (hbA.out.mono hb1.out.size)
  clear ho1 hb1 hbA
  go_wp2_with (go_at_call 10; fail)
  generalize ((w1.alloc (Obj.cells #[.slice ta ugm.terms.length tc, .slice na ugm.names.length nc, .slice ra ugm.rules.length rc] 25)).alloc (Obj.cells #[.int .i64 0, .int .i64 0] 43)) = W at *
  refine Calls.mono (ureach_is ugm ⟨ta, tc, na, nc, ra, rc⟩ 3 W (by decide) HML.out gA.out.at) ?_
  rintro e w2 ⟨lo, lc, rfl, hl2, hb2⟩
  rw [uw2] at hl2 ⊢
  simp only [List.length_cons, List.length_nil, Nat.zero_add, Nat.reduceAdd]
  have kG2 : Hid _ := (hb2.out.block _ (Array.getElem?_eq_some_iff.1 kG.out).1).trans kG.out
  have kF2 : Hid _ := (hb2.out.block _ (Array.getElem?_eq_some_iff.1 kF.out).1).trans kF.out
  have gA2 : Hid _ := gA.out.below hb2.out
  have hB2 : Hid _ := hB.out.trans (hb2.out.mono hB.out.size)
  clear kG kF gA hB hb2
  obtain ⟨f0, f1, _⟩ := cells_two_z kF2.out
  obtain ⟨g0, g1, g2, _⟩ := cells_three_z kG2.out
  clear kF2
  have hb3 : Below w2.heap.size w2 (w2.alloc (Obj.cells #[Value.bool true, Value.bool true, Value.bool true, Value.bool true, Value.bool true, Value.bool true, Value.bool false] 4)) := (Below.refl _ w2).alloc (Nat.le_refl _) _
  have hl3 : Hid _ := hl2.out.next hb3
  have hn3 : Hid _ := bools_new w2 [true, true, true, true, true, true, false] 4
  have kG3 : Hid _ := (hb3.block _ (Array.getElem?_eq_some_iff.1 kG2.out).1).trans kG2.out
  have gA3 : Hid _ := gA2.out.below hb3
  have hB3 : Hid _ := hB2.out.trans (hb3.mono hB2.out.size)
  go_wp2_with (go_at_call 9; fail)
  refine Calls.mono (keepBools_is true [true, true, true, true, true, true, false] [true, true, true, true, true, true, false] (by decide) lo _ lc 7 _ hl3.out hn3.out rfl rfl) ?_
  rintro e w4 ⟨rfl, hb4⟩
  have kG4 : Hid _ := (hb4.block _ (Array.getElem?_eq_some_iff.1 kG3.out).1).trans kG3.out
  have gA4 : Hid _ := gA3.out.below hb4
  have hB4 : Hid _ := hB3.out.trans (hb4.mono hB3.out.size)
  clear f0 f1 hl2 hl3 hn3 kG2 gA2 hB2 hb3 kG3 gA3 hB3 hb4 g0 g1 g2
  obtain ⟨g0, g1, g2, _⟩ := cells_three_z kG4.out
  go_wp2_with (go_at_call 12; fail)
  refine Calls.mono (uprod_is ugm ⟨ta, tc, na, nc, ra, rc⟩ w4 HML.out gA4.out.at) ?_
  rintro e w5 ⟨po, pc, rfl, hl5, hb5⟩
  rw [uw3] at hl5 ⊢
  simp only [List.length_cons, List.length_nil, Nat.zero_add, Nat.reduceAdd]
  have kG5 : Hid _ := (hb5.out.block _ (Array.getElem?_eq_some_iff.1 kG4.out).1).trans kG4.out
  have gA5 : Hid _ := gA4.out.below hb5.out
  have hB5 : Hid _ := hB4.out.trans (hb5.out.mono hB4.out.size)
  clear kG4 gA4 hB4 hb5 g0 g1 g2
  obtain ⟨g0, g1, g2, _⟩ := cells_three_z kG5.out
  have hb6 : Below w5.heap.size w5 (w5.alloc (Obj.cells #[Value.bool true, Value.bool true, Value.bool true, Value.bool true, Value.bool false, Value.bool true, Value.bool true] 4)) := (Below.refl _ w5).alloc (Nat.le_refl _) _
  have hl6 : Hid _ := hl5.out.next hb6
  have hn6 : Hid _ := bools_new w5 [true, true, true, true, false, true, true] 4
  have kG6 : Hid _ := (hb6.block _ (Array.getElem?_eq_some_iff.1 kG5.out).1).trans kG5.out
  have gA6 : Hid _ := gA5.out.below hb6
  have hB6 : Hid _ := hB5.out.trans (hb6.mono hB5.out.size)
  go_wp2_with (go_at_call 9; fail)
  refine Calls.mono (keepBools_is true [true, true, true, true, false, true, true] [true, true, true, true, false, true, true] (by decide) po _ pc 7 _ hl6.out hn6.out rfl rfl) ?_
  rintro e w7 ⟨rfl, hb7⟩
  have kG7 : Hid _ := (hb7.block _ (Array.getElem?_eq_some_iff.1 kG6.out).1).trans kG6.out
  have gA7 : Hid _ := gA6.out.below hb7
  have hB7 : Hid _ := hB6.out.trans (hb7.mono hB6.out.size)
  clear hl5 hl6 hn6 kG5 gA5 hB5 hb6 kG6 gA6 hB6 hb7 g0 g1 g2
  obtain ⟨g0, g1, g2, _⟩ := cells_three_z kG7.out
  go_wp2_with (go_at_call 14; fail)
  refine Calls.mono (uuse_is ugm ⟨ta, tc, na, nc, ra, rc⟩ w7 HML.out gA7.out.at) ?_
  rintro e w8 ⟨uo, uc, rfl, hl8, hb8⟩
  rw [uw4] at hl8 ⊢
  simp only [List.length_cons, List.length_nil, Nat.zero_add, Nat.reduceAdd]
  have kG8 : Hid _ := (hb8.out.block _ (Array.getElem?_eq_some_iff.1 kG7.out).1).trans kG7.out
  have gA8 : Hid _ := gA7.out.below hb8.out
  have hB8 : Hid _ := hB7.out.trans (hb8.out.mono hB7.out.size)
  clear kG7 gA7 hB7 hb8 g0 g1 g2
  obtain ⟨g0, g1, g2, _⟩ := cells_three_z kG8.out
  have hb9 : Below w8.heap.size w8 (w8.alloc (Obj.cells #[Value.bool false, Value.bool true, Value.bool false, Value.bool true, Value.bool false, Value.bool true, Value.bool false] 4)) := (Below.refl _ w8).alloc (Nat.le_refl _) _
  have hl9 : Hid _ := hl8.out.next hb9
  have hn9 : Hid _ := bools_new w8 [false, true, false, true, false, true, false] 4
  have kG9 : Hid _ := (hb9.block _ (Array.getElem?_eq_some_iff.1 kG8.out).1).trans kG8.out
  have gA9 : Hid _ := gA8.out.below hb9
  have hB9 : Hid _ := hB8.out.trans (hb9.mono hB8.out.size)
  go_wp2_with (go_at_call 9; fail)
  refine Calls.mono (keepBools_is true [false, true, false, true, false, true, false] [false, true, false, true, false, true, false] (by decide) uo _ uc 7 _ hl9.out hn9.out rfl rfl) ?_
  rintro e w10 ⟨rfl, hb10⟩
  have kG10 : Hid _ := (hb10.block _ (Array.getElem?_eq_some_iff.1 kG9.out).1).trans kG9.out
  have gA10 : Hid _ := gA9.out.below hb10
  have hB10 : Hid _ := hB9.out.trans (hb10.mono hB9.out.size)
  clear hl8 hl9 hn9 kG8 gA8 hB8 hb9 kG9 gA9 hB9 hb10 g0 g1 g2
  obtain ⟨g0, g1, g2, _⟩ := cells_three_z kG10.out
  go_wp2_with (go_at_call 10; fail)
  refine Calls.mono (ureach_is ugm ⟨ta, tc, na, nc, ra, rc⟩ 7 w10 (by decide) HML.out gA10.out.at) ?_
  rintro e w11 ⟨ro, rc2, rfl, hl11, hb11⟩
  rw [uw5] at hl11 ⊢
  simp only [List.length_nil]
  have kG11 : Hid _ := (hb11.out.block _ (Array.getElem?_eq_some_iff.1 kG10.out).1).trans kG10.out
  have gA11 : Hid _ := gA10.out.below hb11.out
  have hB11 : Hid _ := hB10.out.trans (hb11.out.mono hB10.out.size)
  clear kG10 gA10 hB10 hb11 g0 g1 g2
  obtain ⟨g0, g1, g2, _⟩ := cells_three_z kG11.out
  clear g0 g1 g2 hl11 kG11 gA11
  go_wp2_with fail
  go_ret
  exact ⟨rfl, hB11.out⟩
end Go.Proofs.Ytkcohemphaafkaa
