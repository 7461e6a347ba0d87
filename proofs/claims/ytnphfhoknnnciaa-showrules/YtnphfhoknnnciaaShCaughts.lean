/-
  Layer 4 (show): what is thrown, and the error that was.
  Layer 4 (show): the deferred closure that catches what was thrown.
  Layer 4 (show): what is told, or the error for which it was given up.
-/
import Derived.Test.YtnphfhoknnnciaaShSmall
namespace Go.Proofs.Ytnphfhoknnnciaa
open Go.RowKit

/-- an error that was thrown -/
def thrownE (n : Int) : Ending := .panicked [{ v := .iface 28 (.int .i64 n), recovered := false }]

set_option maxHeartbeats 400000 in
theorem throwUnless_ok (n : Int) (w : World) : Calls Try.prog 70 #[.bool true, .int .i64 n] w fun e w' => e = .returned (.tuple #[]) ∧ w' = w := by
  go_enter Try.func70, Try.ntmps70
  go_wp2
  go_end0
  exact ⟨rfl, rfl⟩

set_option maxHeartbeats 400000 in
theorem throwUnless_no (n : Int) (w : World) : Calls Try.prog 70 #[.bool false, .int .i64 n] w fun e w' => e = thrownE n ∧ w' = w := by
  unfold thrownE
  go_enter Try.func70, Try.ntmps70
  go_wp2
  exact ⟨rfl, rfl, rfl⟩

theorem assert_errno (x : Value) (w : World) : (Instr.typeAssert (.iface 28 x) 20 28 true).run Try.prog w = .ok (.tuple #[x, .bool true]) w := by kernel_rfl

set_option maxRecDepth 10000 in
set_option maxHeartbeats 800000 in
theorem errorOf_is (n : Int) (w : World) : Calls Try.prog 69 #[.iface 28 (.int .i64 n)] w fun e w' => e = .returned (.int .i64 n) ∧ w' = w := by
  have hta := assert_errno (.int .i64 n)
  go_enter Try.func69, Try.ntmps69
  go_wp2
  go_ret
  exact ⟨rfl, rfl⟩
end Go.Proofs.Ytnphfhoknnnciaa

namespace Go.Proofs.Ytnphfhoknnnciaa
open Go.RowKit

set_option maxHeartbeats 800000 in
theorem scatch_panicking (B : Nat) (v0 u1 : Value) (n : Int) (older : List PanicEntry) (w : World)
    (h0 : w.cell? ⟨B, 0, none⟩ = some v0) (z0 : w.frozen? ⟨B, 0, none⟩ = false) (hC : w.cell? ⟨B + 1, 0, none⟩ = some u1) (hCz : w.frozen? ⟨B + 1, 0, none⟩ = false) :
    CallsD Try.prog 68 #[.pointer (some ⟨B, 0, none⟩), .pointer (some ⟨B + 1, 0, none⟩)] (.panicking ({ v := .iface 28 (.int .i64 n), recovered := false } :: older)) w fun e u' w' =>
      e = .returned (.tuple #[]) ∧ u' = .panicking ({ v := .iface 28 (.int .i64 n), recovered := true } :: older) ∧
      w' = (w.setCell ⟨B, 0, none⟩ (.string ⟨#[]⟩)).setCell ⟨B + 1, 0, none⟩ (.int .i64 n) := by
  refine callsD_of_wpS Try.func68 rfl fun c₀ cs hu => ?_
  apply wpS_seq
  apply wpS_region
  simp [wpOpsS, go_sem, recoverD, hu, Try.ntmps68, Exit.thenS]
  apply wpS_seq
  apply wpS_region
  simp [wpOpsS, go_sem, Exit.thenS]
  refine wpS_cond (t := true) (by simp [Act.eval, Array.replicate]) ?_
  simp only [if_true]
  refine wpS_of_wp ?_
  have ht : (#[Value.pointer (some ⟨B, 0, none⟩), Value.pointer (some ⟨B + 1, 0, none⟩)] ++
          ((((Array.replicate 6 undef).setIfInBounds 1 (Value.iface 28 (.int .i64 n))).setIfInBounds
                    0 (Value.iface 28 (.int .i64 n))).setIfInBounds
                2 (Value.iface 28 (.int .i64 n))).setIfInBounds
            3 (Value.bool true)) = #[Value.pointer (some ⟨B, 0, none⟩), Value.pointer (some ⟨B + 1, 0, none⟩), .iface 28 (.int .i64 n), .iface 28 (.int .i64 n), .iface 28 (.int .i64 n), .bool true, undef, undef] := rfl
  rw [ht]
  clear ht hu
  go_wp2_with fail
  refine (errorOf_is n _).mono ?_
  rintro e w1 ⟨rfl, rfl⟩
  go_wp2
  simp [bodyPostS, results, Try.results68]

set_option maxHeartbeats 800000 in
theorem scatch_idle (p q : Addr) (w : World) :
    CallsD Try.prog 68 #[.pointer (some p), .pointer (some q)] .returning w fun e u' w' => e = .returned (.tuple #[]) ∧ u' = .returning ∧ w' = w := by
  refine callsD_of_wpS Try.func68 rfl fun c₀ cs hu => ?_
  apply wpS_seq
  apply wpS_region
  simp [wpOpsS, go_sem, recoverD, hu, Try.ntmps68, Exit.thenS]
  apply wpS_seq
  apply wpS_region
  simp [wpOpsS, go_sem, Exit.thenS]
  refine wpS_cond (t := false) (by simp [Act.eval, Array.replicate]) ?_
  simp only [Bool.false_eq_true, if_false]
  refine wpS_of_wp (wp_skip ?_)
  cases c₀
  simp_all [bodyPostS, results, Try.results68]
end Go.Proofs.Ytnphfhoknnnciaa

namespace Go.Proofs.Ytnphfhoknnnciaa
open Go.RowKit

set_option maxHeartbeats 3200000 in
theorem caught_text (p : Addr) (n : Int) (s : ByteArray) (w : World)
    (h : ∀ W : World, Below w.heap.size w W → Calls Try.prog 46 #[.pointer (some p)] W fun e w' => Below W.heap.size W w' ∧ ((e = .returned (.string s) ∧ n = 0) ∨ (e = thrownE n ∧ s = ⟨#[]⟩))) :
    Calls Try.prog 45 #[.func (.func 46) #[] #[.pointer (some p)]] w fun e w' => e = .returned (.tuple #[.string s, .int .i64 n]) ∧ Below w.heap.size w w' := by
  have hmf : ∀ (fn : Fn) (first cap : Array Value) (w : World), (Instr.makeFunc fn first cap).run Try.prog w = .ok (.func fn first cap) w := fun _ _ _ _ => rfl
  have HF : Hid _ := h
  clear h
  go_enter_defers Try.func45, Try.ntmps45
  go_wp2_with fail
  refine (HF.out _ (((Below.refl _ w).alloc (Nat.le_refl _) _).alloc (by simp) _)).mono ?_
  rintro e w1 ⟨hb, hcase⟩
  have hb0 : Hid (Below w.heap.size w w1) := (((Below.refl _ w).alloc (Nat.le_refl _) _).alloc (by simp) _).trans (hb.mono (by simp; omega))
  have hz : w.heap.size + 1 < w1.heap.size := by have := hb.size; simp at this; omega
  have hz0 : w.heap.size < w1.heap.size := by omega
  have c0 : w1.cell? ⟨w.heap.size, 0, none⟩ = some (.string ⟨#[]⟩) := (hb.cell (by simp; omega)).trans (by simp [go_sem])
  have c1 : w1.cell? ⟨w.heap.size + 1, 0, none⟩ = some (.int .i64 0) := (hb.cell (by simp)).trans (by simp [go_sem])
  have f0 : w1.frozen? ⟨w.heap.size, 0, none⟩ = false := (hb.frozen (by simp; omega)).trans (by simp [go_sem])
  have f1 : w1.frozen? ⟨w.heap.size + 1, 0, none⟩ = false := (hb.frozen (by simp)).trans (by simp [go_sem])
  clear hb
  rcases hcase with ⟨rfl, rfl⟩ | ⟨rfl, rfl⟩
  · go_wp2_with fail
    refine leaves_cons (f := 68) (args := #[.pointer (some ⟨w.heap.size, 0, none⟩), .pointer (some ⟨w.heap.size + 1, 0, none⟩)]) (by simp) (by simp [go_sem]) ?_
    refine (scatch_idle ⟨w.heap.size, 0, none⟩ ⟨w.heap.size + 1, 0, none⟩ _).mono ?_
    rintro e u' w'' ⟨rfl, rfl, rfl⟩
    simp [Leaves, settle, results, Try.results45, go_sem, c0, c1]
    exact (hb0.out.setCell (by exact Nat.le_refl _) _).setCell (by exact Nat.le_succ _) _
  · unfold thrownE
    go_wp2_with fail
    refine leaves_cons (f := 68) (args := #[.pointer (some ⟨w.heap.size, 0, none⟩), .pointer (some ⟨w.heap.size + 1, 0, none⟩)]) (by simp) (by simp [go_sem]) ?_
    refine (scatch_panicking w.heap.size _ _ n [] _ c0 f0 c1 f1).mono ?_
    rintro e u' w'' ⟨rfl, rfl, rfl⟩
    simp [Leaves, settle, results, Try.results45, go_sem, c0, c1]
    exact (hb0.out.setCell (by exact Nat.le_refl _) _).setCell (by exact Nat.le_succ _) _

set_option maxHeartbeats 3200000 in
theorem caught_rule (p q : Addr) (n : Int) (s : ByteArray) (w : World)
    (h : ∀ W : World, Below w.heap.size w W → Calls Try.prog 48 #[.pointer (some p), .pointer (some q)] W fun e w' => Below W.heap.size W w' ∧ ((e = .returned (.string s) ∧ n = 0) ∨ (e = thrownE n ∧ s = ⟨#[]⟩))) :
    Calls Try.prog 45 #[.func (.func 48) #[] #[.pointer (some p), .pointer (some q)]] w fun e w' => e = .returned (.tuple #[.string s, .int .i64 n]) ∧ Below w.heap.size w w' := by
  have hmf : ∀ (fn : Fn) (first cap : Array Value) (w : World), (Instr.makeFunc fn first cap).run Try.prog w = .ok (.func fn first cap) w := fun _ _ _ _ => rfl
  have HF : Hid _ := h
  clear h
  go_enter_defers Try.func45, Try.ntmps45
  go_wp2_with fail
  refine (HF.out _ (((Below.refl _ w).alloc (Nat.le_refl _) _).alloc (by simp) _)).mono ?_
  rintro e w1 ⟨hb, hcase⟩
  have hb0 : Hid (Below w.heap.size w w1) := (((Below.refl _ w).alloc (Nat.le_refl _) _).alloc (by simp) _).trans (hb.mono (by simp; omega))
  have hz : w.heap.size + 1 < w1.heap.size := by have := hb.size; simp at this; omega
  have hz0 : w.heap.size < w1.heap.size := by omega
  have c0 : w1.cell? ⟨w.heap.size, 0, none⟩ = some (.string ⟨#[]⟩) := (hb.cell (by simp; omega)).trans (by simp [go_sem])
  have c1 : w1.cell? ⟨w.heap.size + 1, 0, none⟩ = some (.int .i64 0) := (hb.cell (by simp)).trans (by simp [go_sem])
  have f0 : w1.frozen? ⟨w.heap.size, 0, none⟩ = false := (hb.frozen (by simp; omega)).trans (by simp [go_sem])
  have f1 : w1.frozen? ⟨w.heap.size + 1, 0, none⟩ = false := (hb.frozen (by simp)).trans (by simp [go_sem])
  clear hb
  rcases hcase with ⟨rfl, rfl⟩ | ⟨rfl, rfl⟩
  · go_wp2_with fail
    refine leaves_cons (f := 68) (args := #[.pointer (some ⟨w.heap.size, 0, none⟩), .pointer (some ⟨w.heap.size + 1, 0, none⟩)]) (by simp) (by simp [go_sem]) ?_
    refine (scatch_idle ⟨w.heap.size, 0, none⟩ ⟨w.heap.size + 1, 0, none⟩ _).mono ?_
    rintro e u' w'' ⟨rfl, rfl, rfl⟩
    simp [Leaves, settle, results, Try.results45, go_sem, c0, c1]
    exact (hb0.out.setCell (by exact Nat.le_refl _) _).setCell (by exact Nat.le_succ _) _
  · unfold thrownE
    go_wp2_with fail
    refine leaves_cons (f := 68) (args := #[.pointer (some ⟨w.heap.size, 0, none⟩), .pointer (some ⟨w.heap.size + 1, 0, none⟩)]) (by simp) (by simp [go_sem]) ?_
    refine (scatch_panicking w.heap.size _ _ n [] _ c0 f0 c1 f1).mono ?_
    rintro e u' w'' ⟨rfl, rfl, rfl⟩
    simp [Leaves, settle, results, Try.results45, go_sem, c0, c1]
    exact (hb0.out.setCell (by exact Nat.le_refl _) _).setCell (by exact Nat.le_succ _) _
end Go.Proofs.Ytnphfhoknnnciaa
