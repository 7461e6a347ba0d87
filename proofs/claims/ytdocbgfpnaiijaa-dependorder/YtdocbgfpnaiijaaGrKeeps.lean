/-
  The laws of layer 3: whether numbers, texts, grammars are alike; whether a grammar is large.
  The laws of layer 3: whether a grammar is large.
-/
import Derived.Test.YtdocbgfpnaiijaaGrGood2
namespace Go.Proofs.Ytdocbgfpnaiijaa
open Go.RowKit

theorem IntsAt.drewN {N : Nat} {w : World} {ao : Option Addr} {xs : List Int} (h : IntsAt N w ao xs) (n : Nat) : IntsAt N (w.drewN n) ao xs := h.later (below_drewN (Below.refl _ w) n)

set_option maxHeartbeats 800000 in
theorem keepInts_same (xs : List Int) (hl : xs.length ≤ 4000) (ao ao' : Option Addr) (c c' : Nat) (w : World) (h1 : IntsAt w.heap.size w ao xs) (h2 : IntsAt w.heap.size w ao' xs) :
    Calls Try.prog 22 #[.slice ao xs.length c, .slice ao' xs.length c'] w fun e w' => e = .returned (.bool true) ∧ ∃ n, w' = w.drewN n := by
  have RA : Hid _ := h1.get
  have RB : Hid _ := h2.get
  clear h1 h2
  have hne : ((xs.length : Int) != (xs.length : Int)) = false := by simp
  go_enter Try.func22, Try.ntmps22
  go_wp2_with fail
  go_loopw [5] (fun i wr => ∃ k : Nat, k ≤ xs.length ∧ i = .int .i64 k ∧ ∃ n, wr = w.drewN n) (fun i _ => xs.length - (intOf i).toNat)
  case atStart => exact ⟨0, Nat.zero_le _, rfl, 0, rfl⟩
  case round =>
    obtain ⟨k, hk, rfl, n, rfl⟩ := hrel
    by_cases hlt : k < xs.length
    · obtain ⟨g, o, rfl, _, _, a0⟩ := RA.out k hlt
      obtain ⟨g', o', rfl, _, _, b0⟩ := RB.out k hlt
      generalize xs[k] = x at *
      go_wp2_with fail
      go_quiet (fail)
      go_wp2_with fail
      go_roundw
      case rel => exact ⟨k + 1, by omega, by go_num, _, rfl⟩
      case measure => simp [intOf]; omega
    · go_wp2_with fail
      go_ret
      exact ⟨rfl, n, rfl⟩

set_option maxHeartbeats 800000 in
theorem keepTexts_same (ss : List ByteArray) (hl : ss.length ≤ 4000) (ao ao' : Option Addr) (c c' : Nat) (w : World) (h1 : StrsAt w.heap.size w ao ss) (h2 : StrsAt w.heap.size w ao' ss) :
    Calls Try.prog 46 #[.slice ao ss.length c, .slice ao' ss.length c'] w fun e w' => e = .returned (.bool true) ∧ ∃ n, w' = w.drewN n := by
  have RA : Hid _ := h1.get
  have RB : Hid _ := h2.get
  clear h1 h2
  have hne : ((ss.length : Int) != (ss.length : Int)) = false := by simp
  go_enter Try.func46, Try.ntmps46
  go_wp2_with fail
  go_loopw [5] (fun i wr => ∃ k : Nat, k ≤ ss.length ∧ i = .int .i64 k ∧ ∃ n, wr = w.drewN n) (fun i _ => ss.length - (intOf i).toNat)
  case atStart => exact ⟨0, Nat.zero_le _, rfl, 0, rfl⟩
  case round =>
    obtain ⟨k, hk, rfl, n, rfl⟩ := hrel
    by_cases hlt : k < ss.length
    · obtain ⟨g, o, rfl, _, _, a0⟩ := RA.out k hlt
      obtain ⟨g', o', rfl, _, _, b0⟩ := RB.out k hlt
      generalize ss[k] = x at *
      go_wp2_with fail
      go_quiet (fail)
      go_wp2_with fail
      go_roundw
      case rel => exact ⟨k + 1, by omega, by go_num, _, rfl⟩
      case measure => simp [intOf]; omega
    · go_wp2_with fail
      go_ret
      exact ⟨rfl, n, rfl⟩

set_option maxHeartbeats 1600000 in
theorem keepGrammar_same (g : Gr.Gm) (A B : GA) (w : World) (h1 : g.terms.length ≤ 4000 ∧ g.names.length ≤ 4000 ∧ g.rules.length ≤ 4000) (h8 : ∀ r ∈ g.rules, r.2.length ≤ 4000) (hA : GmAt w.heap.size w g A) (hB : GmAt w.heap.size w g B) :
    Calls Try.prog 27 #[.agg (gmCells g A), .agg (gmCells g B)] w fun e w' => e = .returned (.bool true) ∧ Below w.heap.size w w' := by
  obtain ⟨ta, tc, na, nc, ra, rc⟩ := A
  obtain ⟨tb, td, nb, nd, rb, rd⟩ := B
  have HA : Hid (GmAt w.heap.size w g ⟨ta, tc, na, nc, ra, rc⟩) := hA
  have HB : Hid (GmAt w.heap.size w g ⟨tb, td, nb, nd, rb, rd⟩) := hB
  have H8 : Hid _ := h8
  have h12 := h1.2.1
  have h13 := h1.2.2
  have h11 := h1.1
  clear hA hB h8 h1
  simp only [gmCells]
  have hbW : Hid (Below w.heap.size w ((w.alloc (Obj.cells #[.slice ta g.terms.length tc, .slice na g.names.length nc, .slice ra g.rules.length rc] 25)).alloc (Obj.cells #[.slice tb g.terms.length td, .slice nb g.names.length nd, .slice rb g.rules.length rd] 25))) := ((Below.refl _ w).alloc (Nat.le_refl _) _).alloc (by simp) _
  have b0 : Hid (((w.alloc (Obj.cells #[.slice ta g.terms.length tc, .slice na g.names.length nc, .slice ra g.rules.length rc] 25)).alloc (Obj.cells #[.slice tb g.terms.length td, .slice nb g.names.length nd, .slice rb g.rules.length rd] 25)).heap[w.heap.size]? = some (.cells #[.slice ta g.terms.length tc, .slice na g.names.length nc, .slice ra g.rules.length rc] 25 (0, 0))) := by
    show _ = _; rw [Below.heap_alloc _ _ _ (by simp)]; exact heap_alloc_new w _
  have b1 : Hid (((w.alloc (Obj.cells #[.slice ta g.terms.length tc, .slice na g.names.length nc, .slice ra g.rules.length rc] 25)).alloc (Obj.cells #[.slice tb g.terms.length td, .slice nb g.names.length nd, .slice rb g.rules.length rd] 25)).heap[w.heap.size + 1]? = some (.cells #[.slice tb g.terms.length td, .slice nb g.names.length nd, .slice rb g.rules.length rd] 25 (0, 0))) := by
    show _ = _
    have := heap_alloc_new (w.alloc (Obj.cells #[.slice ta g.terms.length tc, .slice na g.names.length nc, .slice ra g.rules.length rc] 25)) (Obj.cells #[.slice tb g.terms.length td, .slice nb g.names.length nd, .slice rb g.rules.length rd] 25)
    simpa using this
  have hne : ((g.rules.length : Int) != (g.rules.length : Int)) = false := by simp
  have HT1 : Hid (∀ (W : World), Below w.heap.size w W → Calls Try.prog 46 #[.slice ta g.terms.length tc, .slice tb g.terms.length td] W fun e w' => e = .returned (.bool true) ∧ ∃ n, w' = W.drewN n) := fun W hW => keepTexts_same g.terms h11 _ _ _ _ W (HA.out.terms.later hW).size (HB.out.terms.later hW).size
  have HT2 : Hid (∀ (W : World), Below w.heap.size w W → Calls Try.prog 46 #[.slice na g.names.length nc, .slice nb g.names.length nd] W fun e w' => e = .returned (.bool true) ∧ ∃ n, w' = W.drewN n) := fun W hW => keepTexts_same g.names h12 _ _ _ _ W (HA.out.names.later hW).size (HB.out.names.later hW).size
  go_enter Try.func27, Try.ntmps27
  go_wp2_with fail
  generalize ((w.alloc (Obj.cells #[.slice ta g.terms.length tc, .slice na g.names.length nc, .slice ra g.rules.length rc] 25)).alloc (Obj.cells #[.slice tb g.terms.length td, .slice nb g.names.length nd, .slice rb g.rules.length rd] 25)) = W at *
  obtain ⟨g0, g1, g2, _⟩ := cells_three_z b0.out
  obtain ⟨d0, d1, d2, _⟩ := cells_three_z b1.out
  refine (HT1.out _ hbW.out).mono ?_
  rintro e w1 ⟨rfl, n1, rfl⟩
  go_wp2_with (go_at_call 46; fail)
  refine (HT2.out _ (below_drewN hbW.out _)).mono ?_
  rintro e w2 ⟨rfl, n2, rfl⟩
  go_wp2_with fail
  clear HT1 HT2
  go_loopw [5] (fun i wr => ∃ k : Nat, k ≤ g.rules.length ∧ i = .int .i64 k ∧ Hid (∃ n, wr = W.drewN n)) (fun i _ => g.rules.length - (intOf i).toNat)
  case atStart => exact ⟨0, Nat.zero_le _, rfl, ⟨n1 + n2, by simp⟩⟩
  case round =>
    obtain ⟨k, hk, rfl, hw⟩ := hrel
    have hbr : Hid (Below W.heap.size W wr) := by obtain ⟨n, rfl⟩ := hw.out; exact below_drewN (Below.refl _ W) n
    replace g0 := cell_later hbr.out g0
    replace g1 := cell_later hbr.out g1
    replace g2 := cell_later hbr.out g2
    replace d0 := cell_later hbr.out d0
    replace d1 := cell_later hbr.out d1
    replace d2 := cell_later hbr.out d2
    by_cases hlt : k < g.rules.length
    · obtain ⟨b, o, ro, rrc, rfl, hbb, _, k0, k1, ki, _⟩ := HA.out.rules k hlt
      obtain ⟨b', o', ro', rrc', rfl, hbb', _, m0, m1, mi, _⟩ := HB.out.rules k hlt
      have hl := H8.out g.rules[k] (List.getElem_mem hlt)
      have KI : Hid (IntsAt wr.heap.size wr ro g.rules[k].2) := ((ki.later hbW.out).size.later hbr.out).size
      have MI : Hid (IntsAt wr.heap.size wr ro' g.rules[k].2) := ((mi.later hbW.out).size.later hbr.out).size
      replace k0 := cell_later hbr.out (cell_later hbW.out k0)
      replace k1 := cell_later hbr.out (cell_later hbW.out k1)
      replace m0 := cell_later hbr.out (cell_later hbW.out m0)
      replace m1 := cell_later hbr.out (cell_later hbW.out m1)
      clear ki mi
      generalize g.rules[k] = y at *
      obtain ⟨yl, yr⟩ := y
      simp only at k0 k1 m0 m1 KI MI hl
      go_wp2_with fail
      go_quiet (first | (go_at_call 22; exact Calls.quiet_of (keepInts_same _ hl _ _ _ _ _ (KI.out.drewN _) (MI.out.drewN _))))
      go_wp2_with fail
      go_roundw
      case rel => exact ⟨k + 1, by omega, by go_num, by obtain ⟨n, rfl⟩ := hw.out; exact ⟨n + nq, World.drewN_drewN _ _ _⟩⟩
      case measure => simp [intOf]; omega
    · go_wp2_with fail
      go_ret
      exact ⟨rfl, hbW.out.trans (hbr.out.mono hbW.out.size)⟩
end Go.Proofs.Ytdocbgfpnaiijaa

namespace Go.Proofs.Ytdocbgfpnaiijaa.Gr

/-- what numbers cost: one each, and each up to a limit -/
def cost (l : List Nat) : Nat := (l.map (fun x => 1 + min x 4000)).sum
theorem cost_step (l : List Nat) (k : Nat) (h : k < l.length) : cost (l.take (k + 1)) = cost (l.take k) + (1 + min l[k] 4000) := by
  unfold cost; rw [List.take_add_one, List.getElem?_eq_getElem h, List.map_append, List.sum_append]; simp
theorem cost_take (l : List Nat) (k : Nat) : cost (l.take k) ≤ cost l := by
  have e : cost l = cost (l.take k) + cost (l.drop k) := by
    unfold cost; rw [← List.sum_append, ← List.map_append, List.take_append_drop]
  omega
theorem cost_len (l : List Nat) : l.length ≤ cost l := by
  induction l with
  | nil => simp [cost]
  | cons x r ih => have : cost (x :: r) = (1 + min x 4000) + cost r := by simp [cost]
                   rw [List.length_cons]; omega
theorem cost_mem (l : List Nat) (x : Nat) (h : x ∈ l) : 1 + min x 4000 ≤ cost l := by
  induction l with
  | nil => simp at h
  | cons y r ih =>
    have e : cost (y :: r) = (1 + min y 4000) + cost r := by simp [cost]
    rcases List.mem_cons.1 h with rfl | h
    · omega
    · have := ih h; omega

def tot (g : Gm) : Nat := cost (g.terms.map ByteArray.size) + cost (g.names.map ByteArray.size) + cost (g.rules.map (·.2.length))
def large (g : Gm) : Bool := decide (4000 < tot g) || decide (200 < g.rules.length)

/-- what is not large is small -/
theorem large_no {g : Gm} (h : large g = false) : g.terms.length ≤ 4000 ∧ g.names.length ≤ 4000 ∧ g.rules.length ≤ 200 ∧ (∀ s ∈ g.terms, s.size < 4000) ∧ (∀ s ∈ g.names, s.size < 4000) ∧ ∀ r ∈ g.rules, r.2.length < 4000 := by
  simp only [large, Bool.or_eq_false_iff, decide_eq_false_iff_not] at h
  obtain ⟨h, h3⟩ := h
  unfold tot at h
  have h1 := cost_len (g.terms.map ByteArray.size)
  have h2 := cost_len (g.names.map ByteArray.size)
  rw [List.length_map] at h1 h2
  refine ⟨by omega, by omega, by omega, fun s hs => ?_, fun s hs => ?_, fun r hr => ?_⟩
  · have := cost_mem _ _ (List.mem_map_of_mem (f := ByteArray.size) hs); omega
  · have := cost_mem _ _ (List.mem_map_of_mem (f := ByteArray.size) hs); omega
  · have := cost_mem _ _ (List.mem_map_of_mem (f := fun x : Rl => x.2.length) hr); omega
end Go.Proofs.Ytdocbgfpnaiijaa.Gr

namespace Go.Proofs.Ytdocbgfpnaiijaa
open Go.RowKit

set_option maxRecDepth 100000 in
set_option maxHeartbeats 3200000 in
theorem large_is (r : Bool) (g : Gr.Gm) (A : GA) (w : World) (hm : ∀ x ∈ g.rules, x.2.length ≤ maxLen) (h : GmAt w.heap.size w g A) (hr : Gr.large g = r) :
    Calls Try.prog 8 #[.agg (gmCells g A)] w fun e w' => e = .returned (.bool r) ∧ Below w.heap.size w w' := by
  obtain ⟨ta, tc, na, nc, ra, rc⟩ := A
  have HG : Hid (GmAt w.heap.size w g ⟨ta, tc, na, nc, ra, rc⟩) := h
  have HM : Hid _ := hm
  have HR : Hid ((decide (4000 < Gr.tot g) || decide (200 < g.rules.length)) = r) := hr
  have l1 : g.terms.length ≤ 9223372036854775807 := Nat.le_trans h.tcap.1 h.tcap.2
  have l2 : g.names.length ≤ 9223372036854775807 := Nat.le_trans h.ncap.1 h.ncap.2
  have l3 : g.rules.length ≤ 9223372036854775807 := Nat.le_trans h.rcap.1 h.rcap.2
  clear h hr hm
  simp only [gmCells]
  have hbW : Hid (Below w.heap.size w (w.alloc (Obj.cells #[.slice ta g.terms.length tc, .slice na g.names.length nc, .slice ra g.rules.length rc] 25))) := (Below.refl _ w).alloc (Nat.le_refl _) _
  have B0 : Hid ((w.alloc (Obj.cells #[.slice ta g.terms.length tc, .slice na g.names.length nc, .slice ra g.rules.length rc] 25)).heap[w.heap.size]? = some (.cells #[.slice ta g.terms.length tc, .slice na g.names.length nc, .slice ra g.rules.length rc] 25 (0, 0))) := heap_alloc_new w _
  go_enter Try.func8, Try.ntmps8
  go_wp2_with fail
  generalize (w.alloc (Obj.cells #[.slice ta g.terms.length tc, .slice na g.names.length nc, .slice ra g.rules.length rc] 25)) = W at *
  obtain ⟨g0, g1, g2, _⟩ := cells_three_z B0.out
  go_loop [3, 4] (fun v i => ∃ (k n : Nat), k ≤ g.terms.length ∧ i = .int .i64 k ∧ v = .int .i64 n ∧ n ≤ 8001 ∧ Hid (n = Gr.cost ((g.terms.map ByteArray.size).take k))) (fun _ i => g.terms.length - (intOf i).toNat)
  case atStart => exact ⟨0, 0, Nat.zero_le _, rfl, rfl, by omega, by show _ = _; simp [Gr.cost]⟩
  case round =>
    obtain ⟨k, n, hk, rfl, rfl, hn, hE⟩ := hrel
    by_cases hlt : k < g.terms.length
    · have hki : (k : Int) < (g.terms.length : Int) := by omega
      by_cases hn4 : n ≤ 4000
      · have hni : (n : Int) ≤ 4000 := by omega
        obtain ⟨b, o, rfl, hbb, _, c0⟩ := HG.out.terms.get k hlt
        replace c0 := cell_later hbW.out c0
        have hms := HG.out.ttext g.terms[k] (List.getElem_mem hlt)
        have CS : Hid _ := Gr.cost_step (g.terms.map ByteArray.size) k (by simpa using hlt)
        rw [List.getElem_map] at CS
        generalize g.terms[k] = x at *
        have hms' : x.size ≤ 9223372036854775807 := hms
        generalize hxs : x.size = xs at *
        go_wp2_with fail
        go_round
        case rel => exact ⟨k + 1, n + (1 + min xs 4000), by omega, by go_num, by congr 1; omega, by omega, by show _ = _; (rw [CS.out, hE.out]) <;> omega⟩
        case measure => simp [intOf]; omega
      · have hni : (4000 : Int) < (n : Int) := by omega
        have hnd : decide ((n : Int) ≤ 4000) = false := by simp; omega
        have R : Hid (r = true) := by
          show _ = _
          have h1 := Gr.cost_take (g.terms.map ByteArray.size) k
          have h2 := hE.out
          rw [← HR.out]; unfold Gr.tot; simp; omega
        clear hE
        go_wp2_with fail
        go_loop [3, 5] (fun v i => v = .int .i64 n ∧ i = .int .i64 0) (fun _ _ => 0)
        case atStart => exact ⟨rfl, rfl⟩
        case round =>
          obtain ⟨rfl, rfl⟩ := hrel
          by_cases hz5 : 0 < g.names.length
          · have hy : (0 : Int) < (g.names.length : Int) := by omega
            go_wp2_with fail
            go_loop [3, 6] (fun v i => v = .int .i64 n ∧ i = .int .i64 0) (fun _ _ => 0)
            case atStart => exact ⟨rfl, rfl⟩
            case round =>
              obtain ⟨rfl, rfl⟩ := hrel
              by_cases hz6 : 0 < g.rules.length
              · have hy : (0 : Int) < (g.rules.length : Int) := by omega
                go_wp2_with fail
                go_ret
                exact ⟨ret_bool R.out.symm, hbW.out⟩
              · have hy : decide ((0 : Int) < (g.rules.length : Int)) = false := decide_eq_false (by omega)
                go_wp2_with fail
                go_ret
                exact ⟨ret_bool R.out.symm, hbW.out⟩
          · have hy : decide ((0 : Int) < (g.names.length : Int)) = false := decide_eq_false (by omega)
            go_wp2_with fail
            go_loop [3, 6] (fun v i => v = .int .i64 n ∧ i = .int .i64 0) (fun _ _ => 0)
            case atStart => exact ⟨rfl, rfl⟩
            case round =>
              obtain ⟨rfl, rfl⟩ := hrel
              by_cases hz6 : 0 < g.rules.length
              · have hy : (0 : Int) < (g.rules.length : Int) := by omega
                go_wp2_with fail
                go_ret
                exact ⟨ret_bool R.out.symm, hbW.out⟩
              · have hy : decide ((0 : Int) < (g.rules.length : Int)) = false := decide_eq_false (by omega)
                go_wp2_with fail
                go_ret
                exact ⟨ret_bool R.out.symm, hbW.out⟩
    · have hkd : decide ((k : Int) < (g.terms.length : Int)) = false := by simp; omega
      have hB : Hid (n = Gr.cost (g.terms.map ByteArray.size)) := by
        show _ = _
        rw [hE.out, List.take_of_length_le (by rw [List.length_map]; omega)]
      clear hE
      by_cases hn5 : 4000 < n
      · have hni : (4000 : Int) < (n : Int) := by omega
        have hnd : decide ((n : Int) ≤ 4000) = false := by simp; omega
        have R : Hid (r = true) := by show _ = _; rw [← HR.out]; unfold Gr.tot; have := hB.out; simp; omega
        go_wp2_with fail
        go_loop [3, 5] (fun v i => v = .int .i64 n ∧ i = .int .i64 0) (fun _ _ => 0)
        case atStart => exact ⟨rfl, rfl⟩
        case round =>
          obtain ⟨rfl, rfl⟩ := hrel
          by_cases hz5 : 0 < g.names.length
          · have hy : (0 : Int) < (g.names.length : Int) := by omega
            go_wp2_with fail
            go_loop [3, 6] (fun v i => v = .int .i64 n ∧ i = .int .i64 0) (fun _ _ => 0)
            case atStart => exact ⟨rfl, rfl⟩
            case round =>
              obtain ⟨rfl, rfl⟩ := hrel
              by_cases hz6 : 0 < g.rules.length
              · have hy : (0 : Int) < (g.rules.length : Int) := by omega
                go_wp2_with fail
                go_ret
                exact ⟨ret_bool R.out.symm, hbW.out⟩
              · have hy : decide ((0 : Int) < (g.rules.length : Int)) = false := decide_eq_false (by omega)
                go_wp2_with fail
                go_ret
                exact ⟨ret_bool R.out.symm, hbW.out⟩
          · have hy : decide ((0 : Int) < (g.names.length : Int)) = false := decide_eq_false (by omega)
            go_wp2_with fail
            go_loop [3, 6] (fun v i => v = .int .i64 n ∧ i = .int .i64 0) (fun _ _ => 0)
            case atStart => exact ⟨rfl, rfl⟩
            case round =>
              obtain ⟨rfl, rfl⟩ := hrel
              by_cases hz6 : 0 < g.rules.length
              · have hy : (0 : Int) < (g.rules.length : Int) := by omega
                go_wp2_with fail
                go_ret
                exact ⟨ret_bool R.out.symm, hbW.out⟩
              · have hy : decide ((0 : Int) < (g.rules.length : Int)) = false := decide_eq_false (by omega)
                go_wp2_with fail
                go_ret
                exact ⟨ret_bool R.out.symm, hbW.out⟩
      · go_wp2_with fail
        go_loop [3, 5] (fun v i => ∃ (k n : Nat), k ≤ g.names.length ∧ i = .int .i64 k ∧ v = .int .i64 n ∧ n ≤ 8001 ∧ Hid (n = Gr.cost (g.terms.map ByteArray.size) + Gr.cost ((g.names.map ByteArray.size).take k))) (fun _ i => g.names.length - (intOf i).toNat)
        case atStart => exact ⟨0, n, Nat.zero_le _, rfl, rfl, by omega, by show _ = _; simp [Gr.cost, hB.out]⟩
        case round =>
          obtain ⟨k, n, hk, rfl, rfl, hn, hE⟩ := hrel
          by_cases hlt : k < g.names.length
          · have hki : (k : Int) < (g.names.length : Int) := by omega
            by_cases hn4 : n ≤ 4000
            · have hni : (n : Int) ≤ 4000 := by omega
              obtain ⟨b, o, rfl, hbb, _, c0⟩ := HG.out.names.get k hlt
              replace c0 := cell_later hbW.out c0
              have hms := HG.out.ntext g.names[k] (List.getElem_mem hlt)
              have CS : Hid _ := Gr.cost_step (g.names.map ByteArray.size) k (by simpa using hlt)
              rw [List.getElem_map] at CS
              generalize g.names[k] = x at *
              have hms' : x.size ≤ 9223372036854775807 := hms
              generalize hxs : x.size = xs at *
              go_wp2_with fail
              go_round
              case rel => exact ⟨k + 1, n + (1 + min xs 4000), by omega, by go_num, by congr 1; omega, by omega, by show _ = _; (rw [CS.out, hE.out]) <;> omega⟩
              case measure => simp [intOf]; omega
            · have hni : (4000 : Int) < (n : Int) := by omega
              have hnd : decide ((n : Int) ≤ 4000) = false := by simp; omega
              have R : Hid (r = true) := by
                show _ = _
                have h1 := Gr.cost_take (g.names.map ByteArray.size) k
                have h2 := hE.out
                rw [← HR.out]; unfold Gr.tot; simp; omega
              clear hE
              go_wp2_with fail
              go_loop [3, 6] (fun v i => v = .int .i64 n ∧ i = .int .i64 0) (fun _ _ => 0)
              case atStart => exact ⟨rfl, rfl⟩
              case round =>
                obtain ⟨rfl, rfl⟩ := hrel
                by_cases hz6 : 0 < g.rules.length
                · have hy : (0 : Int) < (g.rules.length : Int) := by omega
                  go_wp2_with fail
                  go_ret
                  exact ⟨ret_bool R.out.symm, hbW.out⟩
                · have hy : decide ((0 : Int) < (g.rules.length : Int)) = false := decide_eq_false (by omega)
                  go_wp2_with fail
                  go_ret
                  exact ⟨ret_bool R.out.symm, hbW.out⟩
          · have hkd : decide ((k : Int) < (g.names.length : Int)) = false := by simp; omega
            have hB : Hid (n = Gr.cost (g.terms.map ByteArray.size) + Gr.cost (g.names.map ByteArray.size)) := by
              show _ = _
              rw [hE.out, List.take_of_length_le (by rw [List.length_map]; omega)]
            clear hE
            by_cases hn5 : 4000 < n
            · have hni : (4000 : Int) < (n : Int) := by omega
              have hnd : decide ((n : Int) ≤ 4000) = false := by simp; omega
              have R : Hid (r = true) := by show _ = _; rw [← HR.out]; unfold Gr.tot; have := hB.out; simp; omega
              go_wp2_with fail
              go_loop [3, 6] (fun v i => v = .int .i64 n ∧ i = .int .i64 0) (fun _ _ => 0)
              case atStart => exact ⟨rfl, rfl⟩
              case round =>
                obtain ⟨rfl, rfl⟩ := hrel
                by_cases hz6 : 0 < g.rules.length
                · have hy : (0 : Int) < (g.rules.length : Int) := by omega
                  go_wp2_with fail
                  go_ret
                  exact ⟨ret_bool R.out.symm, hbW.out⟩
                · have hy : decide ((0 : Int) < (g.rules.length : Int)) = false := decide_eq_false (by omega)
                  go_wp2_with fail
                  go_ret
                  exact ⟨ret_bool R.out.symm, hbW.out⟩
            · go_wp2_with fail
              go_loop [3, 6] (fun v i => ∃ (k n : Nat), k ≤ g.rules.length ∧ i = .int .i64 k ∧ v = .int .i64 n ∧ n ≤ 8001 ∧ Hid (n = Gr.cost (g.terms.map ByteArray.size) + Gr.cost (g.names.map ByteArray.size) + Gr.cost ((g.rules.map (fun x => x.2.length)).take k))) (fun _ i => g.rules.length - (intOf i).toNat)
              case atStart => exact ⟨0, n, Nat.zero_le _, rfl, rfl, by omega, by show _ = _; simp [Gr.cost, hB.out]⟩
              case round =>
                obtain ⟨k, n, hk, rfl, rfl, hn, hE⟩ := hrel
                by_cases hlt : k < g.rules.length
                · have hki : (k : Int) < (g.rules.length : Int) := by omega
                  by_cases hn4 : n ≤ 4000
                  · have hni : (n : Int) ≤ 4000 := by omega
                    obtain ⟨b, o, ro, rrc, rfl, hbb, _, c0, c1, ci, _⟩ := HG.out.rules k hlt
                    replace c1 := cell_later hbW.out c1
                    have hms := HM.out g.rules[k] (List.getElem_mem hlt)
                    have CS : Hid _ := Gr.cost_step (g.rules.map (fun x => x.2.length)) k (by simpa using hlt)
                    rw [List.getElem_map] at CS
                    clear ci c0
                    generalize g.rules[k] = x at *
                    obtain ⟨xl, xr⟩ := x
                    simp only at c1 hms CS
                    have hms' : xr.length ≤ 9223372036854775807 := hms
                    generalize hxs : xr.length = xs at *
                    go_wp2_with fail
                    go_round
                    case rel => exact ⟨k + 1, n + (1 + min xs 4000), by omega, by go_num, by congr 1; omega, by omega, by show _ = _; (rw [CS.out, hE.out]) <;> omega⟩
                    case measure => simp [intOf]; omega
                  · have hni : (4000 : Int) < (n : Int) := by omega
                    have hnd : decide ((n : Int) ≤ 4000) = false := by simp; omega
                    have R : Hid (r = true) := by
                      show _ = _
                      have h1 := Gr.cost_take (g.rules.map (fun x => x.2.length)) k
                      have h2 := hE.out
                      rw [← HR.out]; unfold Gr.tot; simp; omega
                    clear hE
                    go_wp2_with fail
                    go_ret
                    exact ⟨ret_bool R.out.symm, hbW.out⟩
                · have hkd : decide ((k : Int) < (g.rules.length : Int)) = false := by simp; omega
                  have hB : Hid (n = Gr.cost (g.terms.map ByteArray.size) + Gr.cost (g.names.map ByteArray.size) + Gr.cost (g.rules.map (fun x => x.2.length))) := by
                    show _ = _
                    rw [hE.out, List.take_of_length_le (by rw [List.length_map]; omega)]
                  clear hE
                  by_cases hfin : 4000 < n
                  · have hni : (4000 : Int) < (n : Int) := by omega
                    have R : Hid (r = true) := by show _ = _; rw [← HR.out]; unfold Gr.tot; have := hB.out; simp; omega
                    go_wp2_with fail
                    go_ret
                    exact ⟨ret_bool R.out.symm, hbW.out⟩
                  · have hni : decide ((4000 : Int) < (n : Int)) = false := by simp; omega
                    have R : Hid (decide ((200 : Int) < (g.rules.length : Int)) = r) := by
                      show _ = _; rw [← HR.out]; unfold Gr.tot; have := hB.out
                      rw [show decide (4000 < _) = false from by simp; omega, Bool.false_or, decide_eq_decide]; omega
                    go_wp2_with fail
                    go_ret
                    exact ⟨ret_bool R.out, hbW.out⟩
end Go.Proofs.Ytdocbgfpnaiijaa
