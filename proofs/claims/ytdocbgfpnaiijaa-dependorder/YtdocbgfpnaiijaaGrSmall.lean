/-
  Layer 3 (grammar): the small functions: where a text stands among some; throw; is a number a terminal's, a nonterminal's.
-/
import Derived.Test.YtdocbgfpnaiijaaGrLib
import Derived.WideShapes
namespace Go.Proofs.Ytdocbgfpnaiijaa
open Go.RowKit

theorem str_beq (x y : ByteArray) : (x.toList == y.toList) = decide (x = y) := by
  rw [ByteArray.toList_eq, ByteArray.toList_eq, Bool.eq_iff_iff]
  simp only [beq_iff_eq, decide_eq_true_eq]
  exact ⟨Go.WideShapes.bytes_inj, fun e => by rw [e]⟩
theorem str_ne {x y : ByteArray} (h : ¬ x = y) : (x.toList == y.toList) = false := by rw [str_beq]; simp [h]

set_option maxHeartbeats 800000 in
theorem indexStr_any (ss : List ByteArray) (hl : ss.length ≤ 2000) (ao : Option Addr) (c : Nat) (x : ByteArray) (w : World) (h : StrsAt w.heap.size w ao ss) :
    Calls Try.prog 102 #[.slice ao ss.length c, .string x] w fun e w' => e = .returned (.int .i64 (Gr.pos x ss)) ∧ w' = w := by
  have HC : Hid _ := h.get
  clear h
  go_enter Try.func102, Try.ntmps102
  go_wp2
  go_loop [8] (fun i => ∃ q : Nat, q ≤ ss.length ∧ i = .int .i64 q ∧ Hid (Gr.pos x ss = if Gr.pos x (ss.drop q) = -1 then -1 else q + Gr.pos x (ss.drop q))) (fun i => ss.length - (intOf i).toNat)
  case atStart => exact ⟨0, Nat.zero_le _, rfl, by show _ = _; rw [List.drop_zero]; split <;> omega⟩
  case round =>
    obtain ⟨q, hq, rfl, hE⟩ := hrel
    by_cases hlt : q < ss.length
    · have HD : Hid (ss.drop q = ss[q] :: ss.drop (q + 1)) := List.drop_eq_getElem_cons hlt
      obtain ⟨b, o, rfl, hb, _, c0⟩ := HC.out q hlt
      have P := hE.out
      rw [HD.out] at P
      generalize ss[q] = y at *
      rw [Gr.pos] at P
      by_cases e : x = y
      · rw [if_pos e] at P
        have R : Hid (Gr.pos x ss = q) := by show _ = _; rw [P]; simp
        clear P HD hE HC
        subst e
        go_wp2
        go_ret
        exact ⟨ret_int R.out.symm, rfl⟩
      · rw [if_neg e] at P
        have hk := str_ne e
        have R : Hid (Gr.pos x ss = if Gr.pos x (ss.drop (q + 1)) = -1 then -1 else ((q + 1 : Nat) : Int) + Gr.pos x (ss.drop (q + 1))) := by
          show _ = _
          have := (Gr.pos_has x (ss.drop (q + 1))).1
          rw [P]
          generalize Gr.pos x (ss.drop (q + 1)) = y at this ⊢
          by_cases h : y = -1
          · subst h; simp
          · rw [if_neg h, if_neg h, if_neg (by omega)]; omega
        clear P HD hE
        go_wp2
        go_round
        case rel => exact ⟨q + 1, by omega, by go_num, R⟩
        case measure => simp [intOf]; omega
    · have R : Hid (Gr.pos x ss = -1) := by show _ = _; rw [hE.out, List.drop_of_length_le (by omega)]; simp [Gr.pos]
      clear hE
      go_wp2
      go_ret
      exact ⟨ret_int R.out.symm, rfl⟩

set_option maxHeartbeats 400000 in
theorem containsStr_is (b : Bool) (ss : List ByteArray) (hl : ss.length ≤ 2000) (ao : Option Addr) (c : Nat) (x : ByteArray) (w : World) (h : StrsAt w.heap.size w ao ss) (hb : Gr.has x ss = b) :
    Calls Try.prog 82 #[.slice ao ss.length c, .string x] w fun e w' => e = .returned (.bool b) ∧ w' = w := by
  have R : Hid (decide (0 ≤ Gr.pos x ss) = b) := ((Gr.pos_has x ss).2.1.trans hb)
  clear hb
  have HC : Hid (StrsAt w.heap.size w ao ss) := h
  clear h
  go_enter Try.func82, Try.ntmps82
  go_wp2_with (go_at_call 102; refine (indexStr_any ss hl _ _ _ _ HC.out).mono ?_; rintro e w' ⟨rfl, rfl⟩)
  go_ret
  exact ⟨ret_bool R.out, rfl⟩

set_option maxHeartbeats 400000 in
theorem gthrow_any (n a : Int) (w : World) :
    Calls Try.prog 73 #[.int .i64 n, .int .i64 a] w fun e w' => e = thrown (n, a) ∧ w' = w := by
  unfold thrown
  go_enter Try.func73, Try.ntmps73
  go_wp2
  exact ⟨rfl, rfl, rfl⟩

set_option maxHeartbeats 400000 in
theorem throwOn_ok (a : Int) (w : World) :
    Calls Try.prog 77 #[.agg #[.int .i64 0, .int .i64 a]] w fun e w' => e = .returned (.tuple #[]) ∧ Below w.heap.size w w' := by
  go_enter Try.func77, Try.ntmps77
  go_wp2
  go_end0
  exact ⟨rfl, (Below.refl _ w).alloc (Nat.le_refl _) _⟩

set_option maxHeartbeats 400000 in
theorem throwOn_err (n a : Int) (hn : n ≠ 0) (w : World) :
    Calls Try.prog 77 #[.agg #[.int .i64 n, .int .i64 a]] w fun e w' => e = thrown (n, a) ∧ Below w.heap.size w w' := by
  have hk : (n != 0) = true := by simp [hn]
  go_enter Try.func77, Try.ntmps77
  go_wp2_with (go_at_call 73; refine (gthrow_any _ _ _).mono ?_; rintro e w2 ⟨rfl, rfl⟩; unfold thrown)
  exact ⟨rfl, rfl, (Below.refl _ w).alloc (Nat.le_refl _) _⟩

set_option maxHeartbeats 400000 in
theorem term_is (r : Bool) (g : Gr.Gm) (A : GA) (s : Int) (w : World) (hr : Gr.isT g s = r) :
    Calls Try.prog 87 #[.agg (gmCells g A), .int .i64 s] w fun e w' => e = .returned (.bool r) ∧ Below w.heap.size w w' := by
  have R : Hid (decide (0 ≤ s ∧ s < g.terms.length) = r) := hr
  clear hr
  unfold gmCells
  go_enter Try.func87, Try.ntmps87
  go_wp2
  all_goals go_ret
  all_goals refine ⟨ret_bool ?_, (Below.refl _ w).alloc (Nat.le_refl _) _⟩
  all_goals (rw [← R.out, Bool.eq_iff_iff]; simp <;> omega)

set_option maxHeartbeats 400000 in
theorem nonterm_is (r : Bool) (g : Gr.Gm) (A : GA) (s : Int) (w : World) (h : g.terms.length ≤ 4000 ∧ g.names.length ≤ 4000) (hr : Gr.isN g s = r) :
    Calls Try.prog 104 #[.agg (gmCells g A), .int .i64 s] w fun e w' => e = .returned (.bool r) ∧ Below w.heap.size w w' := by
  have R : Hid (decide ((g.terms.length : Int) ≤ s ∧ s < (g.terms.length : Int) + g.names.length) = r) := hr
  clear hr
  unfold gmCells
  go_enter Try.func104, Try.ntmps104
  go_wp2
  all_goals go_ret
  all_goals refine ⟨ret_bool ?_, (Below.refl _ w).alloc (Nat.le_refl _) _⟩
  all_goals (rw [← R.out, Bool.eq_iff_iff]; simp <;> omega)
end Go.Proofs.Ytdocbgfpnaiijaa
