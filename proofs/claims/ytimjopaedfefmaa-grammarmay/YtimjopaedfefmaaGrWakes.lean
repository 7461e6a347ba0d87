/-
  The laws of layer 3: wakes.
-/
import Derived.Test.YtimjopaedfefmaaGrTop
import Derived.Test.YtimjopaedfefmaaGrGood6
import Derived.Test.YtimjopaedfefmaaGrKeeps
import Derived.Deep.DeepCutAuto
namespace Go.Proofs.Ytimjopaedfefmaa
open Go.RowKit

def wgm : Gr.Gm := ⟨[⟨#[97]⟩, ⟨#[98]⟩], [⟨#[83]⟩, ⟨#[65]⟩], [(2, [0, 2]), (2, [3]), (3, [1, 0])]⟩

theorem gw1 : Hid (ofS (⟨#[83, 32, 61, 32, 39, 97, 39, 32, 83, 32, 124, 32, 65, 32, 59, 32, 65, 32, 61, 32, 39, 98, 39, 32, 39, 97, 39, 32, 59]⟩ : ByteArray).data.toList = (0, 0, wgm)) := by show _ = _; kernel_rfl
theorem gw2 : Hid (ofS (⟨#[83, 32, 61, 32, 66, 32, 59]⟩ : ByteArray).data.toList = (13, 4, ⟨[], [], []⟩)) := by show _ = _; kernel_rfl
theorem gw3 : Hid (ofS (⟨#[83, 32, 61, 32, 39, 97, 39]⟩ : ByteArray).data.toList = (12, 7, ⟨[], [], []⟩)) := by show _ = _; kernel_rfl
theorem gw4 : Gr.good wgm = true := by kernel_rfl
theorem gw5 : Gr.name wgm 3 = (⟨#[65]⟩, true) := by kernel_rfl
theorem gw6 : Gr.isT wgm 1 = true := by kernel_rfl
theorem gw7 : Gr.isT wgm 2 = false := by kernel_rfl

theorem ints_two (W : World) (a b : Int) : IntsAt (W.alloc (Obj.cells #[.int .i64 a, .int .i64 b] 3)).heap.size (W.alloc (Obj.cells #[.int .i64 a, .int .i64 b] 3)) (some ⟨W.heap.size, 0, none⟩) [a, b] := by
  intro i hi
  simp at hi
  refine ⟨W.heap.size, 0, rfl, by simp, by simp, ?_⟩
  match i, hi with
  | 0, _ => simp [go_sem]
  | 1, _ => simp [go_sem]
theorem ints_one (W : World) (a : Int) : IntsAt (W.alloc (Obj.cells #[.int .i64 a] 3)).heap.size (W.alloc (Obj.cells #[.int .i64 a] 3)) (some ⟨W.heap.size, 0, none⟩) [a] := by
  intro i hi
  simp at hi
  subst hi
  exact ⟨W.heap.size, 0, rfl, by simp, by simp, by simp [go_sem]⟩

/-- what of memory wakes reads, behind its three calls of Of -/
structure WF (W : World) (b1 b2 b3 tb tq nb no rb ro : Nat) (tc nc rc : Nat) (x0 x1 x2 : Option Addr) (c0 c1 c2 : Nat) : Prop where
  g0 : W.cell? ⟨b1, 0, none⟩ = some (.slice (some ⟨tb, tq, none⟩) 2 tc)
  g1 : W.cell? ⟨b1, 1, none⟩ = some (.slice (some ⟨nb, no, none⟩) 2 nc)
  g2 : W.cell? ⟨b1, 2, none⟩ = some (.slice (some ⟨rb, ro, none⟩) 3 rc)
  f0 : W.cell? ⟨b1 + 1, 0, none⟩ = some (.int .i64 0)
  e0 : W.cell? ⟨b2 + 1, 0, none⟩ = some (.int .i64 13)
  e1 : W.cell? ⟨b2 + 1, 1, none⟩ = some (.int .i64 4)
  h0 : W.cell? ⟨b3 + 1, 0, none⟩ = some (.int .i64 12)
  h1 : W.cell? ⟨b3 + 1, 1, none⟩ = some (.int .i64 7)
  t0 : W.cell? ⟨tb, tq, none⟩ = some (.string ⟨#[97]⟩)
  n1 : W.cell? ⟨nb, no + 1, none⟩ = some (.string ⟨#[65]⟩)
  r0 : W.cell? ⟨rb, ro + 1, none⟩ = some (.slice x0 2 c0)
  r1 : W.cell? ⟨rb, ro + 2 + 1, none⟩ = some (.slice x1 1 c1)
  r2 : W.cell? ⟨rb, ro + 4, none⟩ = some (.int .i64 3)
  r3 : W.cell? ⟨rb, ro + 4 + 1, none⟩ = some (.slice x2 2 c2)
  i0 : IntsAt W.heap.size W x0 [0, 2]
  i1 : IntsAt W.heap.size W x1 [3]
  i2 : IntsAt W.heap.size W x2 [1, 0]
  gm : GmAt W.heap.size W wgm ⟨some ⟨tb, tq, none⟩, tc, some ⟨nb, no, none⟩, nc, some ⟨rb, ro, none⟩, rc⟩
  lt : b1 + 1 < W.heap.size ∧ b2 + 1 < W.heap.size ∧ b3 + 1 < W.heap.size ∧ b1 < W.heap.size ∧ tb < W.heap.size ∧ nb < W.heap.size ∧ rb < W.heap.size

theorem WF.later {W W' : World} {b1 b2 b3 tb tq nb no rb ro : Nat} {tc nc rc : Nat} {x0 x1 x2 : Option Addr} {c0 c1 c2 : Nat} (h : WF W b1 b2 b3 tb tq nb no rb ro tc nc rc x0 x1 x2 c0 c1 c2) (hb : Below W.heap.size W W') : WF W' b1 b2 b3 tb tq nb no rb ro tc nc rc x0 x1 x2 c0 c1 c2 where
  g0 := cell_later hb h.g0
  g1 := cell_later hb h.g1
  g2 := cell_later hb h.g2
  f0 := cell_later hb h.f0
  e0 := cell_later hb h.e0
  e1 := cell_later hb h.e1
  h0 := cell_later hb h.h0
  h1 := cell_later hb h.h1
  t0 := cell_later hb h.t0
  n1 := cell_later hb h.n1
  r0 := cell_later hb h.r0
  r1 := cell_later hb h.r1
  r2 := cell_later hb h.r2
  r3 := cell_later hb h.r3
  i0 := (h.i0.later hb).size
  i1 := (h.i1.later hb).size
  i2 := (h.i2.later hb).size
  gm := h.gm.next hb
  lt := by have := hb.size; have := h.lt; omega

set_option maxRecDepth 100000 in
set_option maxHeartbeats 6400000 in
theorem gwakes_any (w : World) : Calls Try.prog 9 #[] w fun e w' => e = .returned (.bool true) ∧ Below w.heap.size w w' := by
  go_enter Try.func9, Try.ntmps9
  go_wp2_with fail
  refine (of_is _ _ _ _ _ (by decide) gw1).mono ?_
  rintro e w1 ⟨⟨ta, tc, na, nc, ra, rc⟩, rfl, hb1, ho1⟩
  have L1 : wgm.terms.length = 2 := rfl
  have L2 : wgm.names.length = 2 := rfl
  have L3 : wgm.rules.length = 3 := rfl
  simp only [gmCells, L1, L2, L3]
  obtain ⟨tb, tq, ht, _, ht2, t0⟩ := ho1.out.at.terms.get 0 (by decide)
  obtain ⟨nb, no, hn, _, hn2, n1⟩ := ho1.out.at.names.get 1 (by decide)
  obtain ⟨rb, ro, x0, c0, hr, _, hr2, q0, r0, i0, _⟩ := ho1.out.at.rules 0 (by decide)
  obtain ⟨rb', ro', x1, c1, hr', _, _, q1, r1, i1, _⟩ := ho1.out.at.rules 1 (by decide)
  obtain ⟨rb'', ro'', x2, c2, hr'', _, _, r2, r3, i2, _⟩ := ho1.out.at.rules 2 (by decide)
  simp only at ht hn hr hr' hr''
  subst ht hn hr
  cases hr'
  cases hr''
  simp [wgm] at t0 n1 r0 r1 r2 r3 i0 i1 i2
  go_wp2_with fail
  have hbA : Hid (Below w1.heap.size w1 ((w1.alloc (Obj.cells #[.slice (some ⟨tb, tq, none⟩) 2 tc, .slice (some ⟨nb, no, none⟩) 2 nc, .slice (some ⟨rb, ro, none⟩) 3 rc] 26)).alloc (Obj.cells #[.int .i64 0, .int .i64 0] 29))) := ((Below.refl _ w1).alloc (Nat.le_refl _) _).alloc (by simp) _
  refine (of_is _ _ _ _ _ (by decide) gw2).mono ?_
  rintro e w2 ⟨⟨ta2, tc2, na2, nc2, ra2, rc2⟩, rfl, hb2, ho2⟩
  simp only [gmCells]
  have z2 : w1.heap.size + 1 < w2.heap.size := by have := hb2.out.size; simp at this; omega
  have g0 : w2.cell? ⟨w1.heap.size, 0, none⟩ = some (.slice (some ⟨tb, tq, none⟩) 2 tc) := (hb2.out.cell (by simp; omega)).trans (by simp [go_sem])
  have g1 : w2.cell? ⟨w1.heap.size, 1, none⟩ = some (.slice (some ⟨nb, no, none⟩) 2 nc) := (hb2.out.cell (by simp; omega)).trans (by simp [go_sem])
  have g2 : w2.cell? ⟨w1.heap.size, 2, none⟩ = some (.slice (some ⟨rb, ro, none⟩) 3 rc) := (hb2.out.cell (by simp; omega)).trans (by simp [go_sem])
  have f0 : w2.cell? ⟨w1.heap.size + 1, 0, none⟩ = some (.int .i64 0) := (hb2.out.cell (by simp)).trans (by simp [go_sem])
  have hb12 : Hid (Below w1.heap.size w1 w2) := hbA.out.trans (hb2.out.mono hbA.out.size)
  have HG : Hid (w2.cell? ⟨w1.heap.size, 0, none⟩ = some (.slice (some ⟨tb, tq, none⟩) 2 tc) ∧ w2.cell? ⟨w1.heap.size, 1, none⟩ = some (.slice (some ⟨nb, no, none⟩) 2 nc) ∧ w2.cell? ⟨w1.heap.size, 2, none⟩ = some (.slice (some ⟨rb, ro, none⟩) 3 rc) ∧ w2.cell? ⟨w1.heap.size + 1, 0, none⟩ = some (.int .i64 0)) := ⟨g0, g1, g2, f0⟩
  clear hb2 hbA ho2 g0 g1 g2 f0
  go_wp2_with fail
  refine (of_is _ _ _ _ _ (by decide) gw3).mono ?_
  rintro e w3 ⟨⟨ta3, tc3, na3, nc3, ra3, rc3⟩, rfl, hb3, ho3⟩
  simp only [gmCells]
  have z3 : w2.heap.size + 1 < w3.heap.size := by have := hb3.out.size; simp at this; omega
  have hbB : Hid (Below w2.heap.size w2 ((w2.alloc (Obj.cells #[.slice ta2 0 tc2, .slice na2 0 nc2, .slice ra2 0 rc2] 26)).alloc (Obj.cells #[.int .i64 13, .int .i64 4] 29))) := ((Below.refl _ w2).alloc (Nat.le_refl _) _).alloc (by simp) _
  have hb23 : Hid (Below w2.heap.size w2 w3) := hbB.out.trans (hb3.out.mono hbB.out.size)
  have e0 : w3.cell? ⟨w2.heap.size + 1, 0, none⟩ = some (.int .i64 13) := (hb3.out.cell (by simp)).trans (by simp [go_sem])
  have e1 : w3.cell? ⟨w2.heap.size + 1, 1, none⟩ = some (.int .i64 4) := (hb3.out.cell (by simp)).trans (by simp [go_sem])
  have hbC : Hid (Below w3.heap.size w3 ((w3.alloc (Obj.cells #[.slice ta3 0 tc3, .slice na3 0 nc3, .slice ra3 0 rc3] 26)).alloc (Obj.cells #[.int .i64 12, .int .i64 7] 29))) := ((Below.refl _ w3).alloc (Nat.le_refl _) _).alloc (by simp) _
  have hb13 : Hid (Below w1.heap.size w1 w3) := hb12.out.trans (hb23.out.mono hb12.out.size)
  have F : Hid (WF ((w3.alloc (Obj.cells #[.slice ta3 0 tc3, .slice na3 0 nc3, .slice ra3 0 rc3] 26)).alloc (Obj.cells #[.int .i64 12, .int .i64 7] 29)) w1.heap.size w2.heap.size w3.heap.size tb tq nb no rb ro tc nc rc x0 x1 x2 c0 c1 c2) := by
    have c23 := fun {a v} (h : w2.cell? a = some v) => cell_later hbC.out (cell_later hb23.out h)
    have c13 := fun {a v} (h : w1.cell? a = some v) => cell_later hbC.out (cell_later hb13.out h)
    obtain ⟨g0, g1, g2, f0⟩ := HG.out
    exact ⟨c23 g0, c23 g1, c23 g2, c23 f0, cell_later hbC.out e0, cell_later hbC.out e1, by simp [go_sem], by simp [go_sem], c13 t0, c13 n1, c13 r0, c13 r1, c13 r2, c13 r3,
      ((i0.later hb13.out).size.later hbC.out).size, ((i1.later hb13.out).size.later hbC.out).size, ((i2.later hb13.out).size.later hbC.out).size, (ho1.out.at.next hb13.out).next hbC.out, by simp; omega⟩
  have FB : Hid (Below w.heap.size w ((w3.alloc (Obj.cells #[.slice ta3 0 tc3, .slice na3 0 nc3, .slice ra3 0 rc3] 26)).alloc (Obj.cells #[.int .i64 12, .int .i64 7] 29))) := (hb1.out.trans (hb13.out.mono hb1.out.size)).trans (hbC.out.mono (by have := hb1.out.size; omega))
  clear HG hbB hb23 e0 e1 hbC hb13 hb12 hb3 ho3 t0 n1 r0 r1 r2 r3 i0 i1 i2 ho1 hb1 q0 q1
  go_upto_region 4 with fail
  generalize ((w3.alloc (Obj.cells #[.slice ta3 0 tc3, .slice na3 0 nc3, .slice ra3 0 rc3] 26)).alloc (Obj.cells #[.int .i64 12, .int .i64 7] 29)) = W at *
  obtain ⟨g0, g1, g2, f0, e0, e1, h0, h1, t0, n1, r0, r1, r2, r3, i0, i1, i2, gm, k1, k2, k3, k4, k5, k6, k7⟩ := F.out
  clear i0 i1 i2 gm
  go_wp2_with fail
  have hts : ∀ s ∈ wgm.terms, s.size ≤ 281474976710656 := by intro s hs; simp [wgm] at hs; rcases hs with rfl | rfl <;> decide
  have hns : ∀ s ∈ wgm.names, s.size ≤ 281474976710656 := by intro s hs; simp [wgm] at hs; rcases hs with rfl | rfl <;> decide
  refine (name_is _ _ wgm ⟨some ⟨tb, tq, none⟩, tc, some ⟨nb, no, none⟩, nc, some ⟨rb, ro, none⟩, rc⟩ 3 W ⟨by decide, by decide⟩ hts hns F.out.gm gw5).mono ?_
  rintro e w4 ⟨rfl, hb4⟩
  have F4 : Hid (WF w4 w1.heap.size w2.heap.size w3.heap.size tb tq nb no rb ro tc nc rc x0 x1 x2 c0 c1 c2) := F.out.later hb4
  have FB4 : Hid (Below w.heap.size w w4) := FB.out.trans (hb4.mono FB.out.size)
  clear g0 g1 g2 f0 e0 e1 h0 h1 t0 n1 r0 r1 r2 r3 k1 k2 k3 k4 k5 k6 k7 hb4 F FB hts hns
  obtain ⟨g0, g1, g2, f0, e0, e1, h0, h1, t0, n1, r0, r1, r2, r3, i0, i1, i2, gm, k1, k2, k3, k4, k5, k6, k7⟩ := F4.out
  clear i0 i1 i2 gm
  go_wp2_with (go_at_call 25; fail)
  have hb5 : Hid (Below w4.heap.size w4 (w4.alloc (Obj.cells #[.int .i64 0, .int .i64 2] 3))) := (Below.refl _ w4).alloc (Nat.le_refl _) _
  refine (keepInts_same [0, 2] (by decide) x0 _ c0 2 _ (F4.out.later hb5.out).i0 (ints_two w4 0 2)).mono ?_
  rintro e w5 ⟨rfl, m5, rfl⟩
  have F5 : Hid (WF ((w4.alloc (Obj.cells #[.int .i64 0, .int .i64 2] 3)).drewN m5) w1.heap.size w2.heap.size w3.heap.size tb tq nb no rb ro tc nc rc x0 x1 x2 c0 c1 c2) := F4.out.later (below_drewN hb5.out _)
  have FB5 : Hid (Below w.heap.size w ((w4.alloc (Obj.cells #[.int .i64 0, .int .i64 2] 3)).drewN m5)) := FB4.out.trans ((below_drewN hb5.out _).mono FB4.out.size)
  generalize ((w4.alloc (Obj.cells #[.int .i64 0, .int .i64 2] 3)).drewN m5) = w5 at *
  clear g0 g1 g2 f0 e0 e1 h0 h1 t0 n1 r0 r1 r2 r3 k1 k2 k3 k4 k5 k6 k7 hb5 F4 FB4
  obtain ⟨g0, g1, g2, f0, e0, e1, h0, h1, t0, n1, r0, r1, r2, r3, i0, i1, i2, gm, k1, k2, k3, k4, k5, k6, k7⟩ := F5.out
  clear i0 i1 i2 gm
  go_wp2_with (go_at_call 25; fail)
  have hb6 : Hid (Below w5.heap.size w5 (w5.alloc (Obj.cells #[.int .i64 3] 3))) := (Below.refl _ w5).alloc (Nat.le_refl _) _
  refine (keepInts_same [3] (by decide) x1 _ c1 1 _ (F5.out.later hb6.out).i1 (ints_one w5 3)).mono ?_
  rintro e w6 ⟨rfl, m6, rfl⟩
  have F6 : Hid (WF ((w5.alloc (Obj.cells #[.int .i64 3] 3)).drewN m6) w1.heap.size w2.heap.size w3.heap.size tb tq nb no rb ro tc nc rc x0 x1 x2 c0 c1 c2) := F5.out.later (below_drewN hb6.out _)
  have FB6 : Hid (Below w.heap.size w ((w5.alloc (Obj.cells #[.int .i64 3] 3)).drewN m6)) := FB5.out.trans ((below_drewN hb6.out _).mono FB5.out.size)
  generalize ((w5.alloc (Obj.cells #[.int .i64 3] 3)).drewN m6) = w6 at *
  clear g0 g1 g2 f0 e0 e1 h0 h1 t0 n1 r0 r1 r2 r3 k1 k2 k3 k4 k5 k6 k7 hb6 F5 FB5
  obtain ⟨g0, g1, g2, f0, e0, e1, h0, h1, t0, n1, r0, r1, r2, r3, i0, i1, i2, gm, k1, k2, k3, k4, k5, k6, k7⟩ := F6.out
  clear i0 i1 i2 gm
  go_wp2_with (go_at_call 25; fail)
  have hb7 : Hid (Below w6.heap.size w6 (w6.alloc (Obj.cells #[.int .i64 1, .int .i64 0] 3))) := (Below.refl _ w6).alloc (Nat.le_refl _) _
  refine (keepInts_same [1, 0] (by decide) x2 _ c2 2 _ (F6.out.later hb7.out).i2 (ints_two w6 1 0)).mono ?_
  rintro e w7 ⟨rfl, m7, rfl⟩
  have F7 : Hid (WF ((w6.alloc (Obj.cells #[.int .i64 1, .int .i64 0] 3)).drewN m7) w1.heap.size w2.heap.size w3.heap.size tb tq nb no rb ro tc nc rc x0 x1 x2 c0 c1 c2) := F6.out.later (below_drewN hb7.out _)
  have FB7 : Hid (Below w.heap.size w ((w6.alloc (Obj.cells #[.int .i64 1, .int .i64 0] 3)).drewN m7)) := FB6.out.trans ((below_drewN hb7.out _).mono FB6.out.size)
  generalize ((w6.alloc (Obj.cells #[.int .i64 1, .int .i64 0] 3)).drewN m7) = w7 at *
  clear g0 g1 g2 f0 e0 e1 h0 h1 t0 n1 r0 r1 r2 r3 k1 k2 k3 k4 k5 k6 k7 hb7 F6 FB6
  obtain ⟨g0, g1, g2, f0, e0, e1, h0, h1, t0, n1, r0, r1, r2, r3, i0, i1, i2, gm, k1, k2, k3, k4, k5, k6, k7⟩ := F7.out
  clear i0 i1 i2 gm
  go_wp2_with (go_at_call 12; fail)
  refine (good_is _ wgm ⟨some ⟨tb, tq, none⟩, tc, some ⟨nb, no, none⟩, nc, some ⟨rb, ro, none⟩, rc⟩ w7 (by intro x hx; simp [wgm] at hx; unfold maxLen; rcases hx with rfl | rfl | rfl <;> decide) F7.out.gm gw4).mono ?_
  rintro e w8 ⟨rfl, hb8⟩
  have F8 : Hid (WF w8 w1.heap.size w2.heap.size w3.heap.size tb tq nb no rb ro tc nc rc x0 x1 x2 c0 c1 c2) := F7.out.later hb8
  have FB8 : Hid (Below w.heap.size w w8) := FB7.out.trans (hb8.mono FB7.out.size)
  clear g0 g1 g2 f0 e0 e1 h0 h1 t0 n1 r0 r1 r2 r3 k1 k2 k3 k4 k5 k6 k7 hb8 F7 FB7
  obtain ⟨g0, g1, g2, f0, e0, e1, h0, h1, t0, n1, r0, r1, r2, r3, i0, i1, i2, gm, k1, k2, k3, k4, k5, k6, k7⟩ := F8.out
  clear i0 i1 i2 gm
  go_wp2_with (go_at_call 28; fail)
  refine (term_is _ wgm ⟨some ⟨tb, tq, none⟩, tc, some ⟨nb, no, none⟩, nc, some ⟨rb, ro, none⟩, rc⟩ 1 w8 gw6).mono ?_
  rintro e w9 ⟨rfl, hb9⟩
  have F9 : Hid (WF w9 w1.heap.size w2.heap.size w3.heap.size tb tq nb no rb ro tc nc rc x0 x1 x2 c0 c1 c2) := F8.out.later hb9
  have FB9 : Hid (Below w.heap.size w w9) := FB8.out.trans (hb9.mono FB8.out.size)
  clear g0 g1 g2 f0 e0 e1 h0 h1 t0 n1 r0 r1 r2 r3 k1 k2 k3 k4 k5 k6 k7 hb9 F8 FB8
  obtain ⟨g0, g1, g2, f0, e0, e1, h0, h1, t0, n1, r0, r1, r2, r3, i0, i1, i2, gm, k1, k2, k3, k4, k5, k6, k7⟩ := F9.out
  clear i0 i1 i2 gm
  go_wp2_with (go_at_call 28; fail)
  refine (term_is _ wgm ⟨some ⟨tb, tq, none⟩, tc, some ⟨nb, no, none⟩, nc, some ⟨rb, ro, none⟩, rc⟩ 2 w9 gw7).mono ?_
  rintro e w10 ⟨rfl, hb10⟩
  go_wp2_with fail
  go_ret
  exact ⟨rfl, FB9.out.trans (hb10.mono FB9.out.size)⟩
end Go.Proofs.Ytimjopaedfefmaa
