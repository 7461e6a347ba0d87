/-
  Layer 4 (show): what is told, or the error for which it was given up.
-/
import Derived.Test.YtnphfhoknnnciaaShCatch
namespace Go.Proofs.Ytnphfhoknnnciaa
open Go.RowKit

set_option maxHeartbeats 3200000 in
theorem caught_text (p : Addr) (n : Int) (s : ByteArray) (w : World)
    (h : ∀ W : World, Below w.heap.size w W → Calls Try.prog 46 #[.pointer (some p)] W fun e w' => Below W.heap.size W w' ∧ ((e = .returned (.string s) ∧ n = 0) ∨ (e = thrownE n ∧ s = ⟨#[]⟩))) :
    Calls Try.prog 45 #[.func (.func 46) #[] #[.pointer (some p)]] w fun e w' => e = .returned (.tuple #[.string s, .int .i64 n]) ∧ Below w.heap.size w w' := by
  have hmf : ∀ (fn : Fn) (first cap : Array Value) (w : World), (Instr.makeFunc fn first cap).run Try.prog w = .ok (.func fn first cap) w := fun _ _ _ _ => rfl
  have HF : Hid _ := h
  clear h
  go_enter_defers Try.func45, Try.ntmps45
  go_wp2_with fail
  refine (HF.out _ (((Below.refl _ w).alloc (Nat.le_refl _) _).alloc (by simp) _)).mono ?_
  rintro e w1 ⟨hb, hcase⟩
  have hb0 : Hid (Below w.heap.size w w1) := (((Below.refl _ w).alloc (Nat.le_refl _) _).alloc (by simp) _).trans (hb.mono (by simp; omega))
  have hz : w.heap.size + 1 < w1.heap.size := by have := hb.size; simp at this; omega
  have hz0 : w.heap.size < w1.heap.size := by omega
  have c0 : w1.cell? ⟨w.heap.size, 0, none⟩ = some (.string ⟨#[]⟩) := (hb.cell (by simp; omega)).trans (by simp [go_sem])
  have c1 : w1.cell? ⟨w.heap.size + 1, 0, none⟩ = some (.int .i64 0) := (hb.cell (by simp)).trans (by simp [go_sem])
  have f0 : w1.frozen? ⟨w.heap.size, 0, none⟩ = false := (hb.frozen (by simp; omega)).trans (by simp [go_sem])
  have f1 : w1.frozen? ⟨w.heap.size + 1, 0, none⟩ = false := (hb.frozen (by simp)).trans (by simp [go_sem])
  clear hb
  rcases hcase with ⟨rfl, rfl⟩ | ⟨rfl, rfl⟩
  · go_wp2_with fail
    refine leaves_cons (f := 68) (args := #[.pointer (some ⟨w.heap.size, 0, none⟩), .pointer (some ⟨w.heap.size + 1, 0, none⟩)]) (by simp) (by simp [go_sem]) ?_
    refine (scatch_idle ⟨w.heap.size, 0, none⟩ ⟨w.heap.size + 1, 0, none⟩ _).mono ?_
    rintro e u' w'' ⟨rfl, rfl, rfl⟩
    simp [Leaves, settle, results, Try.results45, go_sem, c0, c1]
    exact (hb0.out.setCell (by exact Nat.le_refl _) _).setCell (by exact Nat.le_succ _) _
  · unfold thrownE
    go_wp2_with fail
    refine leaves_cons (f := 68) (args := #[.pointer (some ⟨w.heap.size, 0, none⟩), .pointer (some ⟨w.heap.size + 1, 0, none⟩)]) (by simp) (by simp [go_sem]) ?_
    refine (scatch_panicking w.heap.size _ _ n [] _ c0 f0 c1 f1).mono ?_
    rintro e u' w'' ⟨rfl, rfl, rfl⟩
    simp [Leaves, settle, results, Try.results45, go_sem, c0, c1]
    exact (hb0.out.setCell (by exact Nat.le_refl _) _).setCell (by exact Nat.le_succ _) _

set_option maxHeartbeats 3200000 in
theorem caught_rule (p q : Addr) (n : Int) (s : ByteArray) (w : World)
    (h : ∀ W : World, Below w.heap.size w W → Calls Try.prog 48 #[.pointer (some p), .pointer (some q)] W fun e w' => Below W.heap.size W w' ∧ ((e = .returned (.string s) ∧ n = 0) ∨ (e = thrownE n ∧ s = ⟨#[]⟩))) :
    Calls Try.prog 45 #[.func (.func 48) #[] #[.pointer (some p), .pointer (some q)]] w fun e w' => e = .returned (.tuple #[.string s, .int .i64 n]) ∧ Below w.heap.size w w' := by
  have hmf : ∀ (fn : Fn) (first cap : Array Value) (w : World), (Instr.makeFunc fn first cap).run Try.prog w = .ok (.func fn first cap) w := fun _ _ _ _ => rfl
  have HF : Hid _ := h
  clear h
  go_enter_defers Try.func45, Try.ntmps45
  go_wp2_with fail
  refine (HF.out _ (((Below.refl _ w).alloc (Nat.le_refl _) _).alloc (by simp) _)).mono ?_
  rintro e w1 ⟨hb, hcase⟩
  have hb0 : Hid (Below w.heap.size w w1) := (((Below.refl _ w).alloc (Nat.le_refl _) _).alloc (by simp) _).trans (hb.mono (by simp; omega))
  have hz : w.heap.size + 1 < w1.heap.size := by have := hb.size; simp at this; omega
  have hz0 : w.heap.size < w1.heap.size := by omega
  have c0 : w1.cell? ⟨w.heap.size, 0, none⟩ = some (.string ⟨#[]⟩) := (hb.cell (by simp; omega)).trans (by simp [go_sem])
  have c1 : w1.cell? ⟨w.heap.size + 1, 0, none⟩ = some (.int .i64 0) := (hb.cell (by simp)).trans (by simp [go_sem])
  have f0 : w1.frozen? ⟨w.heap.size, 0, none⟩ = false := (hb.frozen (by simp; omega)).trans (by simp [go_sem])
  have f1 : w1.frozen? ⟨w.heap.size + 1, 0, none⟩ = false := (hb.frozen (by simp)).trans (by simp [go_sem])
  clear hb
  rcases hcase with ⟨rfl, rfl⟩ | ⟨rfl, rfl⟩
  · go_wp2_with fail
    refine leaves_cons (f := 68) (args := #[.pointer (some ⟨w.heap.size, 0, none⟩), .pointer (some ⟨w.heap.size + 1, 0, none⟩)]) (by simp) (by simp [go_sem]) ?_
    refine (scatch_idle ⟨w.heap.size, 0, none⟩ ⟨w.heap.size + 1, 0, none⟩ _).mono ?_
    rintro e u' w'' ⟨rfl, rfl, rfl⟩
    simp [Leaves, settle, results, Try.results45, go_sem, c0, c1]
    exact (hb0.out.setCell (by exact Nat.le_refl _) _).setCell (by exact Nat.le_succ _) _
  · unfold thrownE
    go_wp2_with fail
    refine leaves_cons (f := 68) (args := #[.pointer (some ⟨w.heap.size, 0, none⟩), .pointer (some ⟨w.heap.size + 1, 0, none⟩)]) (by simp) (by simp [go_sem]) ?_
    refine (scatch_panicking w.heap.size _ _ n [] _ c0 f0 c1 f1).mono ?_
    rintro e u' w'' ⟨rfl, rfl, rfl⟩
    simp [Leaves, settle, results, Try.results45, go_sem, c0, c1]
    exact (hb0.out.setCell (by exact Nat.le_refl _) _).setCell (by exact Nat.le_succ _) _
end Go.Proofs.Ytnphfhoknnnciaa
