/-
  The laws of layer 4: wakes.
-/
import Derived.Test.YtnphfhoknnnciaaShText
import Derived.Test.YtnphfhoknnnciaaGrTop
namespace Go.Proofs.Ytnphfhoknnnciaa
open Go.RowKit

def sgm : Gr.Gm := ⟨[⟨#[97]⟩], [⟨#[83]⟩], [(1, [0, 1]), (1, [])]⟩
theorem sw1 : Hid (ofS (⟨#[83, 32, 61, 32, 39, 97, 39, 32, 83, 32, 124, 32, 59]⟩ : ByteArray).data.toList = (0, 0, sgm)) := by show _ = _; kernel_rfl
theorem sw2 : Sh.text sgm = (0, ⟨#[83, 32, 61, 32, 39, 97, 39, 32, 83, 32, 59, 10, 83, 32, 61, 32, 59, 10]⟩) := by kernel_rfl
theorem sw3 : Sh.line sgm 0 = (0, ⟨#[83, 32, 61, 32, 39, 97, 39, 32, 83]⟩) := by kernel_rfl
theorem sw4 : Sh.line sgm 2 = (1, ⟨#[]⟩) := by kernel_rfl
theorem sw5 : Sh.text ⟨[], [], []⟩ = (16, ⟨#[]⟩) := by kernel_rfl

set_option maxRecDepth 100000 in
set_option maxHeartbeats 3200000 in
theorem swakes_any (w : World) : Calls Try.prog 19 #[] w fun e w' => e = .returned (.bool true) ∧ Below w.heap.size w w' := by
  have hmz : ∀ x ∈ sgm.rules, x.2.length ≤ maxLen := by intro x hx; simp [sgm] at hx; rcases hx with rfl | rfl <;> (unfold maxLen; simp)
  have HM : Hid _ := hmz
  clear hmz
  go_enter Try.func19, Try.ntmps19
  go_wp2_with (go_at_call 10; fail)
  refine (of_is _ _ _ _ _ (by decide) sw1).mono ?_
  rintro e w1 ⟨⟨ta, tc, na, nc, ra, rc⟩, rfl, hb1, ho1⟩
  simp only [gmCells]
  have hbA : Hid (Below w1.heap.size w1 ((w1.alloc (Obj.cells #[.slice ta sgm.terms.length tc, .slice na sgm.names.length nc, .slice ra sgm.rules.length rc] 25)).alloc (Obj.cells #[.int .i64 0, .int .i64 0] 30))) := ((Below.refl _ w1).alloc (Nat.le_refl _) _).alloc (by simp) _
  have kG : Hid (((w1.alloc (Obj.cells #[.slice ta sgm.terms.length tc, .slice na sgm.names.length nc, .slice ra sgm.rules.length rc] 25)).alloc (Obj.cells #[.int .i64 0, .int .i64 0] 30)).heap[w1.heap.size]? = some (.cells #[.slice ta sgm.terms.length tc, .slice na sgm.names.length nc, .slice ra sgm.rules.length rc] 25 (0, 0))) := by
    show _ = _; rw [Below.heap_alloc _ _ _ (by simp)]; exact heap_alloc_new w1 _
  have kF : Hid (((w1.alloc (Obj.cells #[.slice ta sgm.terms.length tc, .slice na sgm.names.length nc, .slice ra sgm.rules.length rc] 25)).alloc (Obj.cells #[.int .i64 0, .int .i64 0] 30)).heap[w1.heap.size + 1]? = some (.cells #[.int .i64 0, .int .i64 0] 30 (0, 0))) := by
    show _ = _
    have := heap_alloc_new (w1.alloc (Obj.cells #[.slice ta sgm.terms.length tc, .slice na sgm.names.length nc, .slice ra sgm.rules.length rc] 25)) (Obj.cells #[.int .i64 0, .int .i64 0] 30)
    simpa using this
  have gA : Hid _ := ho1.out.below hbA.out
  have hB : Hid _ := hb1.out.trans (hbA.out.mono hb1.out.size)
  clear ho1 hb1 hbA
  go_wp2_with (go_at_call 20; fail)
  generalize ((w1.alloc (Obj.cells #[.slice ta sgm.terms.length tc, .slice na sgm.names.length nc, .slice ra sgm.rules.length rc] 25)).alloc (Obj.cells #[.int .i64 0, .int .i64 0] 30)) = W at *
  refine (showText_is sgm ⟨ta, tc, na, nc, ra, rc⟩ _ _ W HM.out gA.out.at sw2).mono ?_
  rintro e w2 ⟨rfl, hb2⟩
  have kG2 : Hid _ := (hb2.block _ (Array.getElem?_eq_some_iff.1 kG.out).1).trans kG.out
  have kF2 : Hid _ := (hb2.block _ (Array.getElem?_eq_some_iff.1 kF.out).1).trans kF.out
  have gA2 : Hid _ := gA.out.below hb2
  have hB2 : Hid _ := hB.out.trans (hb2.mono hB.out.size)
  clear kG kF gA hB hb2
  obtain ⟨g0, g1, g2, _⟩ := cells_three_z kG2.out
  go_wp2_with (go_at_call 22; fail)
  refine (showRule_is sgm ⟨ta, tc, na, nc, ra, rc⟩ 0 _ _ w2 HM.out gA2.out.at sw3).mono ?_
  rintro e w3 ⟨rfl, hb3⟩
  have kG3 : Hid _ := (hb3.block _ (Array.getElem?_eq_some_iff.1 kG2.out).1).trans kG2.out
  have kF3 : Hid _ := (hb3.block _ (Array.getElem?_eq_some_iff.1 kF2.out).1).trans kF2.out
  have gA3 : Hid _ := gA2.out.below hb3
  have hB3 : Hid _ := hB2.out.trans (hb3.mono hB2.out.size)
  clear kG2 kF2 gA2 hB2 hb3 g0 g1 g2
  obtain ⟨g0, g1, g2, _⟩ := cells_three_z kG3.out
  go_wp2_with (go_at_call 22; fail)
  refine (showRule_is sgm ⟨ta, tc, na, nc, ra, rc⟩ 2 _ _ w3 HM.out gA3.out.at sw4).mono ?_
  rintro e w4 ⟨rfl, hb4⟩
  have kF4 : Hid _ := (hb4.block _ (Array.getElem?_eq_some_iff.1 kF3.out).1).trans kF3.out
  have hB4 : Hid _ := hB3.out.trans (hb4.mono hB3.out.size)
  clear kG3 kF3 gA3 hB3 hb4 g0 g1 g2
  go_wp2_with (go_at_call 20; fail)
  refine (showText_is ⟨[], [], []⟩ ⟨none, 0, none, 0, none, 0⟩ _ _ w4 (fun x hx => by simp at hx) (GmOwn.none w4.heap.size w4).at sw5).mono ?_
  rintro e w5 ⟨rfl, hb5⟩
  obtain ⟨f0, _⟩ := cells_two_z ((hb5.block _ (Array.getElem?_eq_some_iff.1 kF4.out).1).trans kF4.out)
  have hB5 : Hid _ := hB4.out.trans (hb5.mono hB4.out.size)
  clear hb5 hB4 kF4
  go_wp2_with fail
  go_ret
  exact ⟨rfl, hB5.out⟩
end Go.Proofs.Ytnphfhoknnnciaa
