/-
  Layer 2 (read): the small functions: throw, isSymbol, cloneOf, whether a kind is one of some.
-/
import Derived.Test.YtimjopaedfefmaaReadLib
namespace Go.Proofs.Ytimjopaedfefmaa
open Go.RowKit

/-- a fault, thrown -/
def thrown (e : Rd.Er) : Ending := .panicked [{ v := .iface 29 (.agg #[.int .i64 e.1, .int .i64 e.2]), recovered := false }]

set_option maxHeartbeats 400000 in
theorem rthrow_any (n a : Int) (w : World) :
    Calls Try.prog 98 #[.int .i64 n, .int .i64 a] w fun e w' => e = .panicked [{ v := .iface 29 (.agg #[.int .i64 n, .int .i64 a]), recovered := false }] ∧ w' = w := by
  go_enter Try.func98, Try.ntmps98
  go_wp2
  exact ⟨rfl, rfl, rfl⟩

set_option maxHeartbeats 400000 in
theorem isSymbol_any (k : Int) (w : World) :
    Calls Try.prog 99 #[.int .i64 k] w fun e w' => e = .returned (.bool (decide (k = 1 ∨ k = 2))) ∧ w' = w := by
  go_enter Try.func99, Try.ntmps99
  go_wp2
  all_goals go_ret
  all_goals refine ⟨ret_bool ?_, rfl⟩
  all_goals (rw [Bool.eq_iff_iff]; simp <;> omega)

theorem isSymbol_is (b : Bool) (k : Int) (w : World) (h : decide (k = 1 ∨ k = 2) = b) :
    Calls Try.prog 99 #[.int .i64 k] w fun e w' => e = .returned (.bool b) ∧ w' = w := by
  subst h; exact isSymbol_any k w

set_option maxHeartbeats 400000 in
theorem cloneOf_any (t : Rd.Tk) (w : World) (ht : t.text.size ≤ 281474976710656) :
    Calls Try.prog 102 #[tkVal t] w fun e w' => e = .returned (tkVal t) ∧ Below w.heap.size w w' := by
  obtain ⟨k, x, p⟩ := t
  unfold tkVal
  simp only at ht ⊢
  go_enter Try.func102, Try.ntmps102
  go_wp2_with fail
  refine (clone_any _ _ ht).mono ?_
  rintro e w1 ⟨rfl, hb⟩
  have hz : w.heap.size + 1 < w1.heap.size := by have := hb.size; simp at this; omega
  have hb0 : Below w.heap.size w w1 := (((Below.refl _ w).alloc (Nat.le_refl _) _).alloc (by simp) _).trans (hb.mono (by simp; omega))
  have c0 : w1.cell? ⟨w.heap.size, 0, none⟩ = some (.int .i64 k) := (hb.cell (by simp; omega)).trans (by simp [go_sem])
  have c1 : w1.cell? ⟨w.heap.size, 1, none⟩ = some (.string x) := (hb.cell (by simp; omega)).trans (by simp [go_sem])
  have c2 : w1.cell? ⟨w.heap.size, 2, none⟩ = some (.int .i64 p) := (hb.cell (by simp; omega)).trans (by simp [go_sem])
  have f1 : w1.frozen? ⟨w.heap.size, 1, none⟩ = false := (hb.frozen (by simp; omega)).trans (by simp [go_sem])
  have d0 : w1.cell? ⟨w.heap.size + 1, 0, none⟩ = some (.int .i64 0) := (hb.cell (by simp)).trans (by simp [go_sem])
  have d1 : w1.cell? ⟨w.heap.size + 1, 1, none⟩ = some (.string ⟨#[]⟩) := (hb.cell (by simp)).trans (by simp [go_sem])
  have d2 : w1.cell? ⟨w.heap.size + 1, 2, none⟩ = some (.int .i64 0) := (hb.cell (by simp)).trans (by simp [go_sem])
  have g0 : w1.frozen? ⟨w.heap.size + 1, 0, none⟩ = false := (hb.frozen (by simp)).trans (by simp [go_sem])
  have g1 : w1.frozen? ⟨w.heap.size + 1, 1, none⟩ = false := (hb.frozen (by simp)).trans (by simp [go_sem])
  have g2 : w1.frozen? ⟨w.heap.size + 1, 2, none⟩ = false := (hb.frozen (by simp)).trans (by simp [go_sem])
  clear hb
  go_wp2
  refine bodyPost_ret (v := .agg #[.int .i64 k, .string x, .int .i64 p]) (by simp [results, Try.results102, go_sem, d0, d1, d2]) rfl ⟨rfl, ?_⟩
  exact (((hb0.setCell (by exact Nat.le_refl _) _).setCell (by exact Nat.le_succ _) _).setCell (by exact Nat.le_succ _) _).setCell (by exact Nat.le_succ _) _

/-- the place of the first one of numbers that is one, or -1 -/
def idx (k : Int) : List Int → Int
  | [] => -1
  | x :: r => if k = x then 0 else if idx k r = -1 then -1 else 1 + idx k r

theorem idx_has (k : Int) : ∀ ks : List Int, (-1 ≤ idx k ks) ∧ decide (0 ≤ idx k ks) = ks.contains k
  | [] => by simp [idx]
  | x :: r => by
    obtain ⟨h1, h2⟩ := idx_has k r
    rw [idx]
    by_cases e : k = x
    · subst e; simp
    · rw [if_neg e]
      have e2 : (x :: r).contains k = r.contains k := by simp [e]
      rw [e2, ← h2]
      by_cases q : idx k r = -1
      · rw [if_pos q, q]; simp
      · rw [if_neg q]; refine ⟨by omega, ?_⟩; rw [decide_eq_decide]; omega

set_option maxHeartbeats 800000 in
theorem index_any (ks : List Int) (hks : ks.length ≤ 2) (g : Nat) (k : Int) (w : World) (hc : ∀ i (h : i < ks.length), w.cell? ⟨g, i, none⟩ = some (.int .i64 ks[i])) :
    Calls Try.prog 89 #[.slice (some ⟨g, 0, none⟩) ks.length ks.length, .int .i64 k] w fun e w' => e = .returned (.int .i64 (idx k ks)) ∧ w' = w := by
  have HC : Hid _ := hc
  clear hc
  go_enter Try.func89, Try.ntmps89
  go_wp2
  go_loop [8] (fun i => ∃ q : Nat, q ≤ ks.length ∧ i = .int .i64 q ∧ Hid (idx k ks = if idx k (ks.drop q) = -1 then -1 else q + idx k (ks.drop q))) (fun i => ks.length - (intOf i).toNat)
  case atStart => exact ⟨0, Nat.zero_le _, rfl, by show _ = _; rw [List.drop_zero]; split <;> omega⟩
  case round =>
    obtain ⟨q, hq, rfl, hE⟩ := hrel
    by_cases hlt : q < ks.length
    · have HD : Hid (ks.drop q = ks[q] :: ks.drop (q + 1)) := List.drop_eq_getElem_cons hlt
      have c := HC.out q hlt
      have P := hE.out
      rw [HD.out] at P
      generalize ks[q] = x at *
      rw [idx] at P
      by_cases e : k = x
      · rw [if_pos e] at P
        have R : Hid (idx k ks = q) := by show _ = _; rw [P]; simp
        have hk : (k == x) = true := by simp [e]
        clear P HD hE HC
        subst e
        go_wp2
        go_ret
        exact ⟨ret_int R.out.symm, rfl⟩
      · rw [if_neg e] at P
        have hk : (k == x) = false := by simp [e]
        have R : Hid (idx k ks = if idx k (ks.drop (q + 1)) = -1 then -1 else ((q + 1 : Nat) : Int) + idx k (ks.drop (q + 1))) := by
          show _ = _
          have := (idx_has k (ks.drop (q + 1))).1
          rw [P]
          generalize idx k (ks.drop (q + 1)) = y at this ⊢
          by_cases h : y = -1
          · subst h; simp
          · rw [if_neg h, if_neg h, if_neg (by omega)]; omega
        clear P HD hE
        go_wp2
        go_round
        case rel => exact ⟨q + 1, by omega, by go_num, R⟩
        case measure => simp [intOf]; omega
    · have R : Hid (idx k ks = -1) := by show _ = _; rw [hE.out, List.drop_of_length_le (by omega)]; simp [idx]
      clear hE
      go_wp2
      go_ret
      exact ⟨ret_int R.out.symm, rfl⟩

set_option maxHeartbeats 400000 in
theorem contains_is (b : Bool) (ks : List Int) (hks : ks.length ≤ 2) (g : Nat) (k : Int) (w : World) (hc : ∀ i (h : i < ks.length), w.cell? ⟨g, i, none⟩ = some (.int .i64 ks[i])) (hb : ks.contains k = b) :
    Calls Try.prog 70 #[.slice (some ⟨g, 0, none⟩) ks.length ks.length, .int .i64 k] w fun e w' => e = .returned (.bool b) ∧ w' = w := by
  have R : Hid (decide (0 ≤ idx k ks) = b) := ((idx_has k ks).2.trans hb)
  clear hb
  have HC : Hid _ := hc
  clear hc
  go_enter Try.func70, Try.ntmps70
  go_wp2_with (go_at_call 89; refine (index_any ks hks g k _ HC.out).mono ?_; rintro e w' ⟨rfl, rfl⟩)
  go_ret
  exact ⟨ret_bool R.out, rfl⟩
end Go.Proofs.Ytimjopaedfefmaa
