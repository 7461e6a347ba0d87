/-
  The statements' own comparing of answers (topiaristkeep.Bools).
-/
import Derived.Test.YtdocbgfpnaiijaaGreatSchLib
import Derived.Test.YtdocbgfpnaiijaaGreatGrQuiet
namespace Go.Proofs.YtdocbgfpnaiijaaGreat
open Go.RowKit Go.Conc

set_option maxHeartbeats 800000 in
theorem keepBools_is (r : Bool) (xs ys : List Bool) (hl : xs.length ≤ 4000) (ao ao' : Option Addr) (c c' : Nat) (w : World) (h1 : BoolsAt w.heap.size w ao xs) (h2 : BoolsAt w.heap.size w ao' ys) (e : xs = ys) (hr : r = true) :
    Calls Tryz.prog 26 #[.slice ao xs.length c, .slice ao' ys.length c'] w fun e w' => e = .returned (.bool r) ∧ Below w.heap.size w w' := by
  subst e
  subst hr
  have RA : Hid _ := h1.get
  have RB : Hid _ := h2.get
  clear h1 h2
  have hne : ((xs.length : Int) != (xs.length : Int)) = false := by simp
  go_enter Tryz.func26, Tryz.ntmps26
  go_wp2_with fail
  go_loopw [5] (fun i wr => ∃ k : Nat, k ≤ xs.length ∧ i = .int .i64 k ∧ ∃ n, wr = w.drewN n) (fun i _ => xs.length - (intOf i).toNat)
  case atStart => exact ⟨0, Nat.zero_le _, rfl, 0, rfl⟩
  case round =>
    obtain ⟨k, hk, rfl, n, rfl⟩ := hrel
    by_cases hlt : k < xs.length
    · obtain ⟨g, o, rfl, _, _, a0⟩ := RA.out k hlt
      obtain ⟨g', o', rfl, _, _, b0⟩ := RB.out k hlt
      have hxx : (xs[k] != xs[k]) = false := by simp
      generalize xs[k] = x at *
      go_wp2_with fail
      go_quiet (fail)
      go_wp2_with fail
      go_roundw
      case rel => exact ⟨k + 1, by omega, by go_num, _, rfl⟩
      case measure => simp [intOf]; omega
    · go_wp2_with fail
      go_ret
      exact ⟨rfl, below_drewN (Below.refl _ w) n⟩

end Go.Proofs.YtdocbgfpnaiijaaGreat
