/-
  Layer 4 (show): the deferred closure that catches what was thrown.
-/
import Derived.Test.YtnphfhoknnnciaaShThrow
namespace Go.Proofs.Ytnphfhoknnnciaa
open Go.RowKit

set_option maxHeartbeats 800000 in
theorem scatch_panicking (B : Nat) (v0 u1 : Value) (n : Int) (older : List PanicEntry) (w : World)
    (h0 : w.cell? ⟨B, 0, none⟩ = some v0) (z0 : w.frozen? ⟨B, 0, none⟩ = false) (hC : w.cell? ⟨B + 1, 0, none⟩ = some u1) (hCz : w.frozen? ⟨B + 1, 0, none⟩ = false) :
    CallsD Try.prog 68 #[.pointer (some ⟨B, 0, none⟩), .pointer (some ⟨B + 1, 0, none⟩)] (.panicking ({ v := .iface 28 (.int .i64 n), recovered := false } :: older)) w fun e u' w' =>
      e = .returned (.tuple #[]) ∧ u' = .panicking ({ v := .iface 28 (.int .i64 n), recovered := true } :: older) ∧
      w' = (w.setCell ⟨B, 0, none⟩ (.string ⟨#[]⟩)).setCell ⟨B + 1, 0, none⟩ (.int .i64 n) := by
  refine callsD_of_wpS Try.func68 rfl fun c₀ cs hu => ?_
  apply wpS_seq
  apply wpS_region
  simp [wpOpsS, go_sem, recoverD, hu, Try.ntmps68, Exit.thenS]
  apply wpS_seq
  apply wpS_region
  simp [wpOpsS, go_sem, Exit.thenS]
  refine wpS_cond (t := true) (by simp [Act.eval, Array.replicate]) ?_
  simp only [if_true]
  refine wpS_of_wp ?_
  have ht : (#[Value.pointer (some ⟨B, 0, none⟩), Value.pointer (some ⟨B + 1, 0, none⟩)] ++
          ((((Array.replicate 6 undef).setIfInBounds 1 (Value.iface 28 (.int .i64 n))).setIfInBounds
                    0 (Value.iface 28 (.int .i64 n))).setIfInBounds
                2 (Value.iface 28 (.int .i64 n))).setIfInBounds
            3 (Value.bool true)) = #[Value.pointer (some ⟨B, 0, none⟩), Value.pointer (some ⟨B + 1, 0, none⟩), .iface 28 (.int .i64 n), .iface 28 (.int .i64 n), .iface 28 (.int .i64 n), .bool true, undef, undef] := rfl
  rw [ht]
  clear ht hu
  go_wp2_with fail
  refine (errorOf_is n _).mono ?_
  rintro e w1 ⟨rfl, rfl⟩
  go_wp2
  simp [bodyPostS, results, Try.results68]

set_option maxHeartbeats 800000 in
theorem scatch_idle (p q : Addr) (w : World) :
    CallsD Try.prog 68 #[.pointer (some p), .pointer (some q)] .returning w fun e u' w' => e = .returned (.tuple #[]) ∧ u' = .returning ∧ w' = w := by
  refine callsD_of_wpS Try.func68 rfl fun c₀ cs hu => ?_
  apply wpS_seq
  apply wpS_region
  simp [wpOpsS, go_sem, recoverD, hu, Try.ntmps68, Exit.thenS]
  apply wpS_seq
  apply wpS_region
  simp [wpOpsS, go_sem, Exit.thenS]
  refine wpS_cond (t := false) (by simp [Act.eval, Array.replicate]) ?_
  simp only [Bool.false_eq_true, if_false]
  refine wpS_of_wp (wp_skip ?_)
  cases c₀
  simp_all [bodyPostS, results, Try.results68]
end Go.Proofs.Ytnphfhoknnnciaa
