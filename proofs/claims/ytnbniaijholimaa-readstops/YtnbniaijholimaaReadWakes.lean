/-
  The laws of layer 2: wakes.
-/
import Derived.Test.YtnbniaijholimaaReadFair
namespace Go.Proofs.Ytnbniaijholimaa
open Go.RowKit

def wt0 : Rd.Tk := ⟨1, ⟨#[97]⟩, 0⟩
def wt1 : Rd.Tk := ⟨3, ⟨#[61]⟩, 2⟩
def wt2 : Rd.Tk := ⟨2, ⟨#[98]⟩, 4⟩
def wt3 : Rd.Tk := ⟨1, ⟨#[99]⟩, 8⟩
def wt4 : Rd.Tk := ⟨4, ⟨#[124]⟩, 10⟩
def wt5 : Rd.Tk := ⟨5, ⟨#[59]⟩, 12⟩

theorem wg : Hid (tokensG (⟨#[97, 32, 61, 32, 39, 98, 39, 32, 99, 32, 124, 32, 59]⟩ : ByteArray).data.toList = (0, 0, [⟨1, [97], 0⟩, ⟨3, [61], 2⟩, ⟨2, [98], 4⟩, ⟨1, [99], 8⟩, ⟨4, [124], 10⟩, ⟨5, [59], 12⟩])) := by show _ = _; rfl
theorem wa : Hid (Rd.altsG [wt0, wt1, wt2, wt3, wt4, wt5] 13 = (0, 0, [(wt0, [wt2, wt3]), (wt0, [])])) := by show _ = _; rfl
theorem wb : Hid (Rd.altsG [wt0, wt1, wt2] 99 = (12, 99, [])) := by show _ = _; rfl
theorem wc : Hid (Rd.altsG [] 5 = (12, 5, [])) := by show _ = _; rfl

set_option maxHeartbeats 1600000 in
theorem rwakes_any (w : World) : Calls Try.prog 10 #[] w fun e w' => e = .returned (.bool true) ∧ Below w.heap.size w w' := by
  go_enter Try.func10, Try.ntmps10
  go_wp2_with fail
  refine (rtokens_is ⟨#[97, 32, 61, 32, 39, 98, 39, 32, 99, 32, 124, 32, 59]⟩ _ _ _ [wt0, wt1, wt2, wt3, wt4, wt5] _ (by decide) wg rfl).mono ?_
  rintro e w1 ⟨ao, c, rfl, hb1, ht1, hc1⟩
  obtain ⟨b, o, rfl, hbo, hjk, hjl⟩ := ht1.out 0 (by decide)
  clear hjk hjl
  have hc6 : 6 ≤ c := hc1.out.1
  have hc3 : (3 : Int) ≤ (c : Int) := by omega
  have hcm := hc1.out.2
  unfold maxLen at hcm
  have ht3 : Hid (TksAt w1.heap.size w1 (some ⟨b, o, none⟩) [wt0, wt1, wt2]) := by have := ht1.out.part 0 3; rw [Nat.zero_mul, Nat.add_zero] at this; exact this
  have hx : ∀ t ∈ [wt0, wt1, wt2, wt3, wt4, wt5], t.text.size ≤ 281474976710656 := by intro t ht; simp only [List.mem_cons, List.not_mem_nil, or_false] at ht; rcases ht with rfl | rfl | rfl | rfl | rfl | rfl <;> decide
  have HX : Hid _ := hx
  have HX3 : Hid (∀ t ∈ [wt0, wt1, wt2], t.text.size ≤ 281474976710656) := fun t ht => hx t (List.mem_of_mem_take (i := 3) (l := [wt0, wt1, wt2, wt3, wt4, wt5]) ht)
  clear hx
  have hb1a : Hid (Below w1.heap.size w1 (w1.alloc (Obj.cells #[Value.int IntKind.i64 0, Value.int IntKind.i64 0] 30))) := (Below.refl _ w1).alloc (Nat.le_refl _) _
  go_wp2_with fail
  refine (alts_is (some ⟨b, o, none⟩) c [wt0, wt1, wt2, wt3, wt4, wt5] 13 _ _ _ _ (by decide) HX.out hc1.out (ht1.out.later hb1a.out).size wa).mono ?_
  rintro e w2 ⟨xo, xc, rfl, hb2, ha2⟩
  obtain ⟨g, ro, rc, rfl, hg, p0, p1, p2, p3, pt⟩ := ha2.out.right 0 (by decide)
  obtain ⟨g', ro', rc', hg', _, s0, s1, s2, s3, _⟩ := ha2.out.right 1 (by decide)
  cases hg'
  obtain ⟨rb, rof, rfl, _, hrb, u0, u1, u2⟩ := pt 1 (by decide)
  clear pt
  simp [wt0, wt3] at p0 p1 p2 p3 s0 s1 s2 s3 u0 u1 u2
  have e0 : w2.cell? ⟨w1.heap.size, 0, none⟩ = some (.int .i64 0) := (hb2.out.cell (by simp)).trans (by simp [go_sem])
  have hz2 : w1.heap.size < w2.heap.size := by have := hb2.out.size; simp at this; omega
  have hb2w : Hid (Below w1.heap.size w1 w2) := hb1a.out.trans (hb2.out.mono hb1a.out.size)
  go_wp2_with fail
  refine (alts_is (some ⟨b, o, none⟩) c [wt0, wt1, wt2] 99 _ _ _ _ (by decide) HX3.out ⟨by show 3 ≤ c; omega, hc1.out.2⟩ ((ht3.out.later hb2w.out).size.later ((Below.refl _ w2).alloc (Nat.le_refl _) _)).size wb).mono ?_
  rintro e w3 ⟨xo3, xc3, rfl, hb3, ha3⟩
  replace e0 := later_alloc hb3.out e0
  replace p0 := later_alloc hb3.out p0
  replace p1 := later_alloc hb3.out p1
  replace p2 := later_alloc hb3.out p2
  replace p3 := later_alloc hb3.out p3
  replace s0 := later_alloc hb3.out s0
  replace s1 := later_alloc hb3.out s1
  replace s2 := later_alloc hb3.out s2
  replace s3 := later_alloc hb3.out s3
  replace u0 := later_alloc hb3.out u0
  replace u1 := later_alloc hb3.out u1
  replace u2 := later_alloc hb3.out u2
  have e1 : w3.cell? ⟨w2.heap.size, 0, none⟩ = some (.int .i64 0) := (hb3.out.cell (by simp)).trans (by simp [go_sem])
  have hz3 : w2.heap.size < w3.heap.size := by have := hb3.out.size; simp at this; omega
  have hb3w : Hid (Below w2.heap.size w2 w3) := ((Below.refl _ w2).alloc (Nat.le_refl _) _).trans (hb3.out.mono (by simp))
  go_wp2_with fail
  refine (alts_is none 0 [] 5 _ _ _ _ (by decide) (fun t ht => by simp at ht) ⟨Nat.le_refl _, by decide⟩ TksAt.nil wc).mono ?_
  rintro e w4 ⟨xo4, xc4, rfl, hb4, ha4⟩
  replace e0 := later_alloc hb4.out e0
  replace p0 := later_alloc hb4.out p0
  replace p1 := later_alloc hb4.out p1
  replace p2 := later_alloc hb4.out p2
  replace p3 := later_alloc hb4.out p3
  replace s0 := later_alloc hb4.out s0
  replace s1 := later_alloc hb4.out s1
  replace s2 := later_alloc hb4.out s2
  replace s3 := later_alloc hb4.out s3
  replace u0 := later_alloc hb4.out u0
  replace u1 := later_alloc hb4.out u1
  replace u2 := later_alloc hb4.out u2
  replace e1 := later_alloc hb4.out e1
  have h0 : w4.cell? ⟨w3.heap.size, 0, none⟩ = some (.int .i64 12) := (hb4.out.cell (by simp)).trans (by simp [go_sem])
  have h1 : w4.cell? ⟨w3.heap.size, 1, none⟩ = some (.int .i64 99) := (hb4.out.cell (by simp)).trans (by simp [go_sem])
  have hz4 : w3.heap.size < w4.heap.size := by have := hb4.out.size; simp at this; omega
  have hb4w : Hid (Below w3.heap.size w3 w4) := ((Below.refl _ w3).alloc (Nat.le_refl _) _).trans (hb4.out.mono (by simp))
  have HB : Hid (Below w.heap.size w w4) := hb1.out.trans (((hb2w.out.trans (hb3w.out.mono (Nat.le_of_lt hz2))).trans (hb4w.out.mono (by omega))).mono hb1.out.size)
  have x1 : w1.heap.size < w4.heap.size := by omega
  have x2 : w2.heap.size < w4.heap.size := by omega
  have x3 : g < w4.heap.size := by omega
  have x4 : rb < w4.heap.size := by omega
  clear hb2 hb3 hb4 hb2w hb3w hb4w hb1a
  go_wp2_with fail
  go_ret
  exact ⟨rfl, HB.out.alloc HB.out.size _⟩
end Go.Proofs.Ytnbniaijholimaa
