/-
  The laws of layer 3: whether a grammar is large.
-/
import Derived.Test.YtfanpbbgnlllgaaGrKeep
namespace Go.Proofs.Ytfanpbbgnlllgaa.Gr

/-- what numbers cost: one each, and each up to a limit -/
def cost (l : List Nat) : Nat := (l.map (fun x => 1 + min x 4000)).sum
theorem cost_step (l : List Nat) (k : Nat) (h : k < l.length) : cost (l.take (k + 1)) = cost (l.take k) + (1 + min l[k] 4000) := by
  unfold cost; rw [List.take_add_one, List.getElem?_eq_getElem h, List.map_append, List.sum_append]; simp
theorem cost_take (l : List Nat) (k : Nat) : cost (l.take k) ≤ cost l := by
  have e : cost l = cost (l.take k) + cost (l.drop k) := by
    unfold cost; rw [← List.sum_append, ← List.map_append, List.take_append_drop]
  omega
theorem cost_len (l : List Nat) : l.length ≤ cost l := by
  induction l with
  | nil => simp [cost]
  | cons x r ih => have : cost (x :: r) = (1 + min x 4000) + cost r := by simp [cost]
                   rw [List.length_cons]; omega
theorem cost_mem (l : List Nat) (x : Nat) (h : x ∈ l) : 1 + min x 4000 ≤ cost l := by
  induction l with
  | nil => simp at h
  | cons y r ih =>
    have e : cost (y :: r) = (1 + min y 4000) + cost r := by simp [cost]
    rcases List.mem_cons.1 h with rfl | h
    · omega
    · have := ih h; omega

def tot (g : Gm) : Nat := cost (g.terms.map ByteArray.size) + cost (g.names.map ByteArray.size) + cost (g.rules.map (·.2.length))
def large (g : Gm) : Bool := decide (4000 < tot g) || decide (200 < g.rules.length)

/-- what is not large is small -/
theorem large_no {g : Gm} (h : large g = false) : g.terms.length ≤ 4000 ∧ g.names.length ≤ 4000 ∧ g.rules.length ≤ 200 ∧ (∀ s ∈ g.terms, s.size < 4000) ∧ (∀ s ∈ g.names, s.size < 4000) ∧ ∀ r ∈ g.rules, r.2.length < 4000 := by
  simp only [large, Bool.or_eq_false_iff, decide_eq_false_iff_not] at h
  obtain ⟨h, h3⟩ := h
  unfold tot at h
  have h1 := cost_len (g.terms.map ByteArray.size)
  have h2 := cost_len (g.names.map ByteArray.size)
  rw [List.length_map] at h1 h2
  refine ⟨by omega, by omega, by omega, fun s hs => ?_, fun s hs => ?_, fun r hr => ?_⟩
  · have := cost_mem _ _ (List.mem_map_of_mem (f := ByteArray.size) hs); omega
  · have := cost_mem _ _ (List.mem_map_of_mem (f := ByteArray.size) hs); omega
  · have := cost_mem _ _ (List.mem_map_of_mem (f := fun x : Rl => x.2.length) hr); omega
end Go.Proofs.Ytfanpbbgnlllgaa.Gr

namespace Go.Proofs.Ytfanpbbgnlllgaa
open Go.RowKit

set_option maxRecDepth 100000 in
set_option maxHeartbeats 3200000 in
theorem large_is (r : Bool) (g : Gr.Gm) (A : GA) (w : World) (hm : ∀ x ∈ g.rules, x.2.length ≤ maxLen) (h : GmAt w.heap.size w g A) (hr : Gr.large g = r) :
    Calls Try.prog 10 #[.agg (gmCells g A)] w fun e w' => e = .returned (.bool r) ∧ Below w.heap.size w w' := by
  obtain ⟨ta, tc, na, nc, ra, rc⟩ := A
  have HG : Hid (GmAt w.heap.size w g ⟨ta, tc, na, nc, ra, rc⟩) := h
  have HM : Hid _ := hm
  have HR : Hid ((decide (4000 < Gr.tot g) || decide (200 < g.rules.length)) = r) := hr
  have l1 : g.terms.length ≤ 9223372036854775807 := Nat.le_trans h.tcap.1 h.tcap.2
  have l2 : g.names.length ≤ 9223372036854775807 := Nat.le_trans h.ncap.1 h.ncap.2
  have l3 : g.rules.length ≤ 9223372036854775807 := Nat.le_trans h.rcap.1 h.rcap.2
  clear h hr hm
  simp only [gmCells]
  have hbW : Hid (Below w.heap.size w (w.alloc (Obj.cells #[.slice ta g.terms.length tc, .slice na g.names.length nc, .slice ra g.rules.length rc] 25))) := (Below.refl _ w).alloc (Nat.le_refl _) _
  have B0 : Hid ((w.alloc (Obj.cells #[.slice ta g.terms.length tc, .slice na g.names.length nc, .slice ra g.rules.length rc] 25)).heap[w.heap.size]? = some (.cells #[.slice ta g.terms.length tc, .slice na g.names.length nc, .slice ra g.rules.length rc] 25 (0, 0))) := heap_alloc_new w _
  go_enter Try.func10, Try.ntmps10
  go_wp2_with fail
  generalize (w.alloc (Obj.cells #[.slice ta g.terms.length tc, .slice na g.names.length nc, .slice ra g.rules.length rc] 25)) = W at *
  obtain ⟨g0, g1, g2, _⟩ := cells_three_z B0.out
  go_loop [3, 4] (fun v i => ∃ (k n : Nat), k ≤ g.terms.length ∧ i = .int .i64 k ∧ v = .int .i64 n ∧ n ≤ 8001 ∧ Hid (n = Gr.cost ((g.terms.map ByteArray.size).take k))) (fun _ i => g.terms.length - (intOf i).toNat)
  case atStart => exact ⟨0, 0, Nat.zero_le _, rfl, rfl, by omega, by show _ = _; simp [Gr.cost]⟩
  case round =>
    obtain ⟨k, n, hk, rfl, rfl, hn, hE⟩ := hrel
    by_cases hlt : k < g.terms.length
    · have hki : (k : Int) < (g.terms.length : Int) := by omega
      by_cases hn4 : n ≤ 4000
      · have hni : (n : Int) ≤ 4000 := by omega
        obtain ⟨b, o, rfl, hbb, _, c0⟩ := HG.out.terms.get k hlt
        replace c0 := cell_later hbW.out c0
        have hms := HG.out.ttext g.terms[k] (List.getElem_mem hlt)
        have CS : Hid _ := Gr.cost_step (g.terms.map ByteArray.size) k (by simpa using hlt)
        rw [List.getElem_map] at CS
        generalize g.terms[k] = x at *
        have hms' : x.size ≤ 9223372036854775807 := hms
        generalize hxs : x.size = xs at *
        go_wp2_with fail
        go_round
        case rel => exact ⟨k + 1, n + (1 + min xs 4000), by omega, by go_num, by congr 1; omega, by omega, by show _ = _; (rw [CS.out, hE.out]) <;> omega⟩
        case measure => simp [intOf]; omega
      · have hni : (4000 : Int) < (n : Int) := by omega
        have hnd : decide ((n : Int) ≤ 4000) = false := by simp; omega
        have R : Hid (r = true) := by
          show _ = _
          have h1 := Gr.cost_take (g.terms.map ByteArray.size) k
          have h2 := hE.out
          rw [← HR.out]; unfold Gr.tot; simp; omega
        clear hE
        go_wp2_with fail
        go_loop [3, 5] (fun v i => v = .int .i64 n ∧ i = .int .i64 0) (fun _ _ => 0)
        case atStart => exact ⟨rfl, rfl⟩
        case round =>
          obtain ⟨rfl, rfl⟩ := hrel
          by_cases hz5 : 0 < g.names.length
          · have hy : (0 : Int) < (g.names.length : Int) := by omega
            go_wp2_with fail
            go_loop [3, 6] (fun v i => v = .int .i64 n ∧ i = .int .i64 0) (fun _ _ => 0)
            case atStart => exact ⟨rfl, rfl⟩
            case round =>
              obtain ⟨rfl, rfl⟩ := hrel
              by_cases hz6 : 0 < g.rules.length
              · have hy : (0 : Int) < (g.rules.length : Int) := by omega
                go_wp2_with fail
                go_ret
                exact ⟨ret_bool R.out.symm, hbW.out⟩
              · have hy : decide ((0 : Int) < (g.rules.length : Int)) = false := decide_eq_false (by omega)
                go_wp2_with fail
                go_ret
                exact ⟨ret_bool R.out.symm, hbW.out⟩
          · have hy : decide ((0 : Int) < (g.names.length : Int)) = false := decide_eq_false (by omega)
            go_wp2_with fail
            go_loop [3, 6] (fun v i => v = .int .i64 n ∧ i = .int .i64 0) (fun _ _ => 0)
            case atStart => exact ⟨rfl, rfl⟩
            case round =>
              obtain ⟨rfl, rfl⟩ := hrel
              by_cases hz6 : 0 < g.rules.length
              · have hy : (0 : Int) < (g.rules.length : Int) := by omega
                go_wp2_with fail
                go_ret
                exact ⟨ret_bool R.out.symm, hbW.out⟩
              · have hy : decide ((0 : Int) < (g.rules.length : Int)) = false := decide_eq_false (by omega)
                go_wp2_with fail
                go_ret
                exact ⟨ret_bool R.out.symm, hbW.out⟩
    · have hkd : decide ((k : Int) < (g.terms.length : Int)) = false := by simp; omega
      have hB : Hid (n = Gr.cost (g.terms.map ByteArray.size)) := by
        show _ = _
        rw [hE.out, List.take_of_length_le (by rw [List.length_map]; omega)]
      clear hE
      by_cases hn5 : 4000 < n
      · have hni : (4000 : Int) < (n : Int) := by omega
        have hnd : decide ((n : Int) ≤ 4000) = false := by simp; omega
        have R : Hid (r = true) := by show _ = _; rw [← HR.out]; unfold Gr.tot; have := hB.out; simp; omega
        go_wp2_with fail
        go_loop [3, 5] (fun v i => v = .int .i64 n ∧ i = .int .i64 0) (fun _ _ => 0)
        case atStart => exact ⟨rfl, rfl⟩
        case round =>
          obtain ⟨rfl, rfl⟩ := hrel
          by_cases hz5 : 0 < g.names.length
          · have hy : (0 : Int) < (g.names.length : Int) := by omega
            go_wp2_with fail
            go_loop [3, 6] (fun v i => v = .int .i64 n ∧ i = .int .i64 0) (fun _ _ => 0)
            case atStart => exact ⟨rfl, rfl⟩
            case round =>
              obtain ⟨rfl, rfl⟩ := hrel
              by_cases hz6 : 0 < g.rules.length
              · have hy : (0 : Int) < (g.rules.length : Int) := by omega
                go_wp2_with fail
                go_ret
                exact ⟨ret_bool R.out.symm, hbW.out⟩
              · have hy : decide ((0 : Int) < (g.rules.length : Int)) = false := decide_eq_false (by omega)
                go_wp2_with fail
                go_ret
                exact ⟨ret_bool R.out.symm, hbW.out⟩
          · have hy : decide ((0 : Int) < (g.names.length : Int)) = false := decide_eq_false (by omega)
            go_wp2_with fail
            go_loop [3, 6] (fun v i => v = .int .i64 n ∧ i = .int .i64 0) (fun _ _ => 0)
            case atStart => exact ⟨rfl, rfl⟩
            case round =>
              obtain ⟨rfl, rfl⟩ := hrel
              by_cases hz6 : 0 < g.rules.length
              · have hy : (0 : Int) < (g.rules.length : Int) := by omega
                go_wp2_with fail
                go_ret
                exact ⟨ret_bool R.out.symm, hbW.out⟩
              · have hy : decide ((0 : Int) < (g.rules.length : Int)) = false := decide_eq_false (by omega)
                go_wp2_with fail
                go_ret
                exact ⟨ret_bool R.out.symm, hbW.out⟩
      · go_wp2_with fail
        go_loop [3, 5] (fun v i => ∃ (k n : Nat), k ≤ g.names.length ∧ i = .int .i64 k ∧ v = .int .i64 n ∧ n ≤ 8001 ∧ Hid (n = Gr.cost (g.terms.map ByteArray.size) + Gr.cost ((g.names.map ByteArray.size).take k))) (fun _ i => g.names.length - (intOf i).toNat)
        case atStart => exact ⟨0, n, Nat.zero_le _, rfl, rfl, by omega, by show _ = _; simp [Gr.cost, hB.out]⟩
        case round =>
          obtain ⟨k, n, hk, rfl, rfl, hn, hE⟩ := hrel
          by_cases hlt : k < g.names.length
          · have hki : (k : Int) < (g.names.length : Int) := by omega
            by_cases hn4 : n ≤ 4000
            · have hni : (n : Int) ≤ 4000 := by omega
              obtain ⟨b, o, rfl, hbb, _, c0⟩ := HG.out.names.get k hlt
              replace c0 := cell_later hbW.out c0
              have hms := HG.out.ntext g.names[k] (List.getElem_mem hlt)
              have CS : Hid _ := Gr.cost_step (g.names.map ByteArray.size) k (by simpa using hlt)
              rw [List.getElem_map] at CS
              generalize g.names[k] = x at *
              have hms' : x.size ≤ 9223372036854775807 := hms
              generalize hxs : x.size = xs at *
              go_wp2_with fail
              go_round
              case rel => exact ⟨k + 1, n + (1 + min xs 4000), by omega, by go_num, by congr 1; omega, by omega, by show _ = _; (rw [CS.out, hE.out]) <;> omega⟩
              case measure => simp [intOf]; omega
            · have hni : (4000 : Int) < (n : Int) := by omega
              have hnd : decide ((n : Int) ≤ 4000) = false := by simp; omega
              have R : Hid (r = true) := by
                show _ = _
                have h1 := Gr.cost_take (g.names.map ByteArray.size) k
                have h2 := hE.out
                rw [← HR.out]; unfold Gr.tot; simp; omega
              clear hE
              go_wp2_with fail
              go_loop [3, 6] (fun v i => v = .int .i64 n ∧ i = .int .i64 0) (fun _ _ => 0)
              case atStart => exact ⟨rfl, rfl⟩
              case round =>
                obtain ⟨rfl, rfl⟩ := hrel
                by_cases hz6 : 0 < g.rules.length
                · have hy : (0 : Int) < (g.rules.length : Int) := by omega
                  go_wp2_with fail
                  go_ret
                  exact ⟨ret_bool R.out.symm, hbW.out⟩
                · have hy : decide ((0 : Int) < (g.rules.length : Int)) = false := decide_eq_false (by omega)
                  go_wp2_with fail
                  go_ret
                  exact ⟨ret_bool R.out.symm, hbW.out⟩
          · have hkd : decide ((k : Int) < (g.names.length : Int)) = false := by simp; omega
            have hB : Hid (n = Gr.cost (g.terms.map ByteArray.size) + Gr.cost (g.names.map ByteArray.size)) := by
              show _ = _
              rw [hE.out, List.take_of_length_le (by rw [List.length_map]; omega)]
            clear hE
            by_cases hn5 : 4000 < n
            · have hni : (4000 : Int) < (n : Int) := by omega
              have hnd : decide ((n : Int) ≤ 4000) = false := by simp; omega
              have R : Hid (r = true) := by show _ = _; rw [← HR.out]; unfold Gr.tot; have := hB.out; simp; omega
              go_wp2_with fail
              go_loop [3, 6] (fun v i => v = .int .i64 n ∧ i = .int .i64 0) (fun _ _ => 0)
              case atStart => exact ⟨rfl, rfl⟩
              case round =>
                obtain ⟨rfl, rfl⟩ := hrel
                by_cases hz6 : 0 < g.rules.length
                · have hy : (0 : Int) < (g.rules.length : Int) := by omega
                  go_wp2_with fail
                  go_ret
                  exact ⟨ret_bool R.out.symm, hbW.out⟩
                · have hy : decide ((0 : Int) < (g.rules.length : Int)) = false := decide_eq_false (by omega)
                  go_wp2_with fail
                  go_ret
                  exact ⟨ret_bool R.out.symm, hbW.out⟩
            · go_wp2_with fail
              go_loop [3, 6] (fun v i => ∃ (k n : Nat), k ≤ g.rules.length ∧ i = .int .i64 k ∧ v = .int .i64 n ∧ n ≤ 8001 ∧ Hid (n = Gr.cost (g.terms.map ByteArray.size) + Gr.cost (g.names.map ByteArray.size) + Gr.cost ((g.rules.map (fun x => x.2.length)).take k))) (fun _ i => g.rules.length - (intOf i).toNat)
              case atStart => exact ⟨0, n, Nat.zero_le _, rfl, rfl, by omega, by show _ = _; simp [Gr.cost, hB.out]⟩
              case round =>
                obtain ⟨k, n, hk, rfl, rfl, hn, hE⟩ := hrel
                by_cases hlt : k < g.rules.length
                · have hki : (k : Int) < (g.rules.length : Int) := by omega
                  by_cases hn4 : n ≤ 4000
                  · have hni : (n : Int) ≤ 4000 := by omega
                    obtain ⟨b, o, ro, rrc, rfl, hbb, _, c0, c1, ci, _⟩ := HG.out.rules k hlt
                    replace c1 := cell_later hbW.out c1
                    have hms := HM.out g.rules[k] (List.getElem_mem hlt)
                    have CS : Hid _ := Gr.cost_step (g.rules.map (fun x => x.2.length)) k (by simpa using hlt)
                    rw [List.getElem_map] at CS
                    clear ci c0
                    generalize g.rules[k] = x at *
                    obtain ⟨xl, xr⟩ := x
                    simp only at c1 hms CS
                    have hms' : xr.length ≤ 9223372036854775807 := hms
                    generalize hxs : xr.length = xs at *
                    go_wp2_with fail
                    go_round
                    case rel => exact ⟨k + 1, n + (1 + min xs 4000), by omega, by go_num, by congr 1; omega, by omega, by show _ = _; (rw [CS.out, hE.out]) <;> omega⟩
                    case measure => simp [intOf]; omega
                  · have hni : (4000 : Int) < (n : Int) := by omega
                    have hnd : decide ((n : Int) ≤ 4000) = false := by simp; omega
                    have R : Hid (r = true) := by
                      show _ = _
                      have h1 := Gr.cost_take (g.rules.map (fun x => x.2.length)) k
                      have h2 := hE.out
                      rw [← HR.out]; unfold Gr.tot; simp; omega
                    clear hE
                    go_wp2_with fail
                    go_ret
                    exact ⟨ret_bool R.out.symm, hbW.out⟩
                · have hkd : decide ((k : Int) < (g.rules.length : Int)) = false := by simp; omega
                  have hB : Hid (n = Gr.cost (g.terms.map ByteArray.size) + Gr.cost (g.names.map ByteArray.size) + Gr.cost (g.rules.map (fun x => x.2.length))) := by
                    show _ = _
                    rw [hE.out, List.take_of_length_le (by rw [List.length_map]; omega)]
                  clear hE
                  by_cases hfin : 4000 < n
                  · have hni : (4000 : Int) < (n : Int) := by omega
                    have R : Hid (r = true) := by show _ = _; rw [← HR.out]; unfold Gr.tot; have := hB.out; simp; omega
                    go_wp2_with fail
                    go_ret
                    exact ⟨ret_bool R.out.symm, hbW.out⟩
                  · have hni : decide ((4000 : Int) < (n : Int)) = false := by simp; omega
                    have R : Hid (decide ((200 : Int) < (g.rules.length : Int)) = r) := by
                      show _ = _; rw [← HR.out]; unfold Gr.tot; have := hB.out
                      rw [show decide (4000 < _) = false from by simp; omega, Bool.false_or, decide_eq_decide]; omega
                    go_wp2_with fail
                    go_ret
                    exact ⟨ret_bool R.out, hbW.out⟩
end Go.Proofs.Ytfanpbbgnlllgaa
