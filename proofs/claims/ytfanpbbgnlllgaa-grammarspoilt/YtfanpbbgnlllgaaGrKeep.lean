/-
  The laws of layer 3: whether numbers, texts, grammars are alike; whether a grammar is large.
-/
import Derived.Test.YtfanpbbgnlllgaaGrGood2
namespace Go.Proofs.Ytfanpbbgnlllgaa
open Go.RowKit

theorem IntsAt.drewN {N : Nat} {w : World} {ao : Option Addr} {xs : List Int} (h : IntsAt N w ao xs) (n : Nat) : IntsAt N (w.drewN n) ao xs := h.later (below_drewN (Below.refl _ w) n)

set_option maxHeartbeats 800000 in
theorem keepInts_same (xs : List Int) (hl : xs.length ≤ 4000) (ao ao' : Option Addr) (c c' : Nat) (w : World) (h1 : IntsAt w.heap.size w ao xs) (h2 : IntsAt w.heap.size w ao' xs) :
    Calls Try.prog 28 #[.slice ao xs.length c, .slice ao' xs.length c'] w fun e w' => e = .returned (.bool true) ∧ ∃ n, w' = w.drewN n := by
  have RA : Hid _ := h1.get
  have RB : Hid _ := h2.get
  clear h1 h2
  have hne : ((xs.length : Int) != (xs.length : Int)) = false := by simp
  go_enter Try.func28, Try.ntmps28
  go_wp2_with fail
  go_loopw [5] (fun i wr => ∃ k : Nat, k ≤ xs.length ∧ i = .int .i64 k ∧ ∃ n, wr = w.drewN n) (fun i _ => xs.length - (intOf i).toNat)
  case atStart => exact ⟨0, Nat.zero_le _, rfl, 0, rfl⟩
  case round =>
    obtain ⟨k, hk, rfl, n, rfl⟩ := hrel
    by_cases hlt : k < xs.length
    · obtain ⟨g, o, rfl, _, _, a0⟩ := RA.out k hlt
      obtain ⟨g', o', rfl, _, _, b0⟩ := RB.out k hlt
      generalize xs[k] = x at *
      go_wp2_with fail
      go_quiet (fail)
      go_wp2_with fail
      go_roundw
      case rel => exact ⟨k + 1, by omega, by go_num, _, rfl⟩
      case measure => simp [intOf]; omega
    · go_wp2_with fail
      go_ret
      exact ⟨rfl, n, rfl⟩

set_option maxHeartbeats 800000 in
theorem keepTexts_same (ss : List ByteArray) (hl : ss.length ≤ 4000) (ao ao' : Option Addr) (c c' : Nat) (w : World) (h1 : StrsAt w.heap.size w ao ss) (h2 : StrsAt w.heap.size w ao' ss) :
    Calls Try.prog 39 #[.slice ao ss.length c, .slice ao' ss.length c'] w fun e w' => e = .returned (.bool true) ∧ ∃ n, w' = w.drewN n := by
  have RA : Hid _ := h1.get
  have RB : Hid _ := h2.get
  clear h1 h2
  have hne : ((ss.length : Int) != (ss.length : Int)) = false := by simp
  go_enter Try.func39, Try.ntmps39
  go_wp2_with fail
  go_loopw [5] (fun i wr => ∃ k : Nat, k ≤ ss.length ∧ i = .int .i64 k ∧ ∃ n, wr = w.drewN n) (fun i _ => ss.length - (intOf i).toNat)
  case atStart => exact ⟨0, Nat.zero_le _, rfl, 0, rfl⟩
  case round =>
    obtain ⟨k, hk, rfl, n, rfl⟩ := hrel
    by_cases hlt : k < ss.length
    · obtain ⟨g, o, rfl, _, _, a0⟩ := RA.out k hlt
      obtain ⟨g', o', rfl, _, _, b0⟩ := RB.out k hlt
      generalize ss[k] = x at *
      go_wp2_with fail
      go_quiet (fail)
      go_wp2_with fail
      go_roundw
      case rel => exact ⟨k + 1, by omega, by go_num, _, rfl⟩
      case measure => simp [intOf]; omega
    · go_wp2_with fail
      go_ret
      exact ⟨rfl, n, rfl⟩

set_option maxHeartbeats 1600000 in
theorem keepGrammar_same (g : Gr.Gm) (A B : GA) (w : World) (h1 : g.terms.length ≤ 4000 ∧ g.names.length ≤ 4000 ∧ g.rules.length ≤ 4000) (h8 : ∀ r ∈ g.rules, r.2.length ≤ 4000) (hA : GmAt w.heap.size w g A) (hB : GmAt w.heap.size w g B) :
    Calls Try.prog 17 #[.agg (gmCells g A), .agg (gmCells g B)] w fun e w' => e = .returned (.bool true) ∧ Below w.heap.size w w' := by
  obtain ⟨ta, tc, na, nc, ra, rc⟩ := A
  obtain ⟨tb, td, nb, nd, rb, rd⟩ := B
  have HA : Hid (GmAt w.heap.size w g ⟨ta, tc, na, nc, ra, rc⟩) := hA
  have HB : Hid (GmAt w.heap.size w g ⟨tb, td, nb, nd, rb, rd⟩) := hB
  have H8 : Hid _ := h8
  have h12 := h1.2.1
  have h13 := h1.2.2
  have h11 := h1.1
  clear hA hB h8 h1
  simp only [gmCells]
  have hbW : Hid (Below w.heap.size w ((w.alloc (Obj.cells #[.slice ta g.terms.length tc, .slice na g.names.length nc, .slice ra g.rules.length rc] 25)).alloc (Obj.cells #[.slice tb g.terms.length td, .slice nb g.names.length nd, .slice rb g.rules.length rd] 25))) := ((Below.refl _ w).alloc (Nat.le_refl _) _).alloc (by simp) _
  have b0 : Hid (((w.alloc (Obj.cells #[.slice ta g.terms.length tc, .slice na g.names.length nc, .slice ra g.rules.length rc] 25)).alloc (Obj.cells #[.slice tb g.terms.length td, .slice nb g.names.length nd, .slice rb g.rules.length rd] 25)).heap[w.heap.size]? = some (.cells #[.slice ta g.terms.length tc, .slice na g.names.length nc, .slice ra g.rules.length rc] 25 (0, 0))) := by
    show _ = _; rw [Below.heap_alloc _ _ _ (by simp)]; exact heap_alloc_new w _
  have b1 : Hid (((w.alloc (Obj.cells #[.slice ta g.terms.length tc, .slice na g.names.length nc, .slice ra g.rules.length rc] 25)).alloc (Obj.cells #[.slice tb g.terms.length td, .slice nb g.names.length nd, .slice rb g.rules.length rd] 25)).heap[w.heap.size + 1]? = some (.cells #[.slice tb g.terms.length td, .slice nb g.names.length nd, .slice rb g.rules.length rd] 25 (0, 0))) := by
    show _ = _
    have := heap_alloc_new (w.alloc (Obj.cells #[.slice ta g.terms.length tc, .slice na g.names.length nc, .slice ra g.rules.length rc] 25)) (Obj.cells #[.slice tb g.terms.length td, .slice nb g.names.length nd, .slice rb g.rules.length rd] 25)
    simpa using this
  have hne : ((g.rules.length : Int) != (g.rules.length : Int)) = false := by simp
  have HT1 : Hid (∀ (W : World), Below w.heap.size w W → Calls Try.prog 39 #[.slice ta g.terms.length tc, .slice tb g.terms.length td] W fun e w' => e = .returned (.bool true) ∧ ∃ n, w' = W.drewN n) := fun W hW => keepTexts_same g.terms h11 _ _ _ _ W (HA.out.terms.later hW).size (HB.out.terms.later hW).size
  have HT2 : Hid (∀ (W : World), Below w.heap.size w W → Calls Try.prog 39 #[.slice na g.names.length nc, .slice nb g.names.length nd] W fun e w' => e = .returned (.bool true) ∧ ∃ n, w' = W.drewN n) := fun W hW => keepTexts_same g.names h12 _ _ _ _ W (HA.out.names.later hW).size (HB.out.names.later hW).size
  go_enter Try.func17, Try.ntmps17
  go_wp2_with fail
  generalize ((w.alloc (Obj.cells #[.slice ta g.terms.length tc, .slice na g.names.length nc, .slice ra g.rules.length rc] 25)).alloc (Obj.cells #[.slice tb g.terms.length td, .slice nb g.names.length nd, .slice rb g.rules.length rd] 25)) = W at *
  obtain ⟨g0, g1, g2, _⟩ := cells_three_z b0.out
  obtain ⟨d0, d1, d2, _⟩ := cells_three_z b1.out
  refine (HT1.out _ hbW.out).mono ?_
  rintro e w1 ⟨rfl, n1, rfl⟩
  go_wp2_with (go_at_call 39; fail)
  refine (HT2.out _ (below_drewN hbW.out _)).mono ?_
  rintro e w2 ⟨rfl, n2, rfl⟩
  go_wp2_with fail
  clear HT1 HT2
  go_loopw [5] (fun i wr => ∃ k : Nat, k ≤ g.rules.length ∧ i = .int .i64 k ∧ Hid (∃ n, wr = W.drewN n)) (fun i _ => g.rules.length - (intOf i).toNat)
  case atStart => exact ⟨0, Nat.zero_le _, rfl, ⟨n1 + n2, by simp⟩⟩
  case round =>
    obtain ⟨k, hk, rfl, hw⟩ := hrel
    have hbr : Hid (Below W.heap.size W wr) := by obtain ⟨n, rfl⟩ := hw.out; exact below_drewN (Below.refl _ W) n
    replace g0 := cell_later hbr.out g0
    replace g1 := cell_later hbr.out g1
    replace g2 := cell_later hbr.out g2
    replace d0 := cell_later hbr.out d0
    replace d1 := cell_later hbr.out d1
    replace d2 := cell_later hbr.out d2
    by_cases hlt : k < g.rules.length
    · obtain ⟨b, o, ro, rrc, rfl, hbb, _, k0, k1, ki, _⟩ := HA.out.rules k hlt
      obtain ⟨b', o', ro', rrc', rfl, hbb', _, m0, m1, mi, _⟩ := HB.out.rules k hlt
      have hl := H8.out g.rules[k] (List.getElem_mem hlt)
      have KI : Hid (IntsAt wr.heap.size wr ro g.rules[k].2) := ((ki.later hbW.out).size.later hbr.out).size
      have MI : Hid (IntsAt wr.heap.size wr ro' g.rules[k].2) := ((mi.later hbW.out).size.later hbr.out).size
      replace k0 := cell_later hbr.out (cell_later hbW.out k0)
      replace k1 := cell_later hbr.out (cell_later hbW.out k1)
      replace m0 := cell_later hbr.out (cell_later hbW.out m0)
      replace m1 := cell_later hbr.out (cell_later hbW.out m1)
      clear ki mi
      generalize g.rules[k] = y at *
      obtain ⟨yl, yr⟩ := y
      simp only at k0 k1 m0 m1 KI MI hl
      go_wp2_with fail
      go_quiet (first | (go_at_call 28; exact Calls.quiet_of (keepInts_same _ hl _ _ _ _ _ (KI.out.drewN _) (MI.out.drewN _))))
      go_wp2_with fail
      go_roundw
      case rel => exact ⟨k + 1, by omega, by go_num, by obtain ⟨n, rfl⟩ := hw.out; exact ⟨n + nq, World.drewN_drewN _ _ _⟩⟩
      case measure => simp [intOf]; omega
    · go_wp2_with fail
      go_ret
      exact ⟨rfl, hbW.out.trans (hbr.out.mono hbW.out.size)⟩
end Go.Proofs.Ytfanpbbgnlllgaa
