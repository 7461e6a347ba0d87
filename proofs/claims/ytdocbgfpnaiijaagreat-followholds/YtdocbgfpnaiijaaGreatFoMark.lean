/-
  The laws of layer 9: their own words: has, all, Small.
-/
import Derived.Test.YtdocbgfpnaiijaaGreatFoLaw
import Derived.Test.YtdocbgfpnaiijaaGreatFiSets
namespace Go.Proofs.YtdocbgfpnaiijaaGreat
open Go.RowKit Go.Conc

set_option maxHeartbeats 1600000 in
theorem has_any (r : Bool) (xs : List Int) (v : Int) (ao : Option Addr) (c : Nat) (w : World) (hx : IntsAt w.heap.size w ao xs) (h4 : xs.length ≤ 4000) (hr : decide (v ∈ xs) = r) :
    Calls Tryz.prog 17 #[.slice ao xs.length c, .int .i64 v] w fun e w' => e = .returned (.bool r) ∧ w' = w := by
  have HX : Hid _ := hx.get
  have HR : Hid _ := hr
  clear hx hr
  go_enter Tryz.func17, Tryz.ntmps17
  go_wp2_with fail
  go_loopw [5] (fun i wr => ∃ k : Nat, k ≤ xs.length ∧ i = .int .i64 k ∧ Hid (∀ x ∈ xs.take k, x ≠ v) ∧ wr = w) (fun i _ => xs.length - (intOf i).toNat)
  case atStart => exact ⟨0, Nat.zero_le _, rfl, fun x hx => by simp at hx, rfl⟩
  case round =>
    obtain ⟨k, hk, rfl, hN, rfl⟩ := hrel
    by_cases hkl : k < xs.length
    · have hki : (k : Int) < (xs.length : Int) := by omega
      obtain ⟨xb, xo, rfl, _, _, x0⟩ := HX.out k hkl
      have hm := List.getElem_mem hkl
      have HT : Hid (xs.take (k + 1) = xs.take k ++ [xs[k]]) := by show _ = _; rw [List.take_add_one, List.getElem?_eq_getElem hkl]; rfl
      generalize xs[k] = x at *
      by_cases e : x = v
      · have R : Hid (r = true) := by show _ = _; rw [← HR.out, decide_eq_true_eq, ← e]; exact hm
        have heq : (x == v) = true := by simp [e]
        clear hN HT hm
        go_wp2_with fail
        go_ret
        rw [R.out]
        exact ⟨rfl, rfl⟩
      · have heq : (x == v) = false := by simp [e]
        have N2 : Hid (∀ y ∈ xs.take (k + 1), y ≠ v) := fun y hy => by
          rw [HT.out] at hy
          rcases List.mem_append.1 hy with hy | hy
          · exact hN.out y hy
          · rw [List.mem_singleton] at hy; rw [hy]; exact e
        clear hN HT hm
        go_wp2_with fail
        go_roundw
        case rel => exact ⟨k + 1, by omega, by go_num, N2, trivial⟩
        case measure => simp [intOf]; omega
    · obtain rfl : k = xs.length := by omega
      have hki : ¬ (xs.length : Int) < (xs.length : Int) := by omega
      have R : Hid (r = false) := by
        show _ = _
        rw [← HR.out, decide_eq_false_iff_not]
        intro q
        have h := hN.out
        rw [List.take_length] at h
        exact h v q rfl
      clear hN
      go_wp2_with fail
      go_ret
      rw [R.out]
      exact ⟨rfl, rfl⟩

set_option maxHeartbeats 1600000 in
theorem all_any (xs ys : List Int) (ao bo : Option Addr) (c d : Nat) (w : World) (hx : IntsAt w.heap.size w ao xs) (hy : IntsAt w.heap.size w bo ys) (h4 : xs.length ≤ 4000) (h5 : ys.length ≤ 4000) (hr : ∀ y ∈ ys, y ∈ xs) :
    Calls Tryz.prog 20 #[.slice ao xs.length c, .slice bo ys.length d] w fun e w' => e = .returned (.bool true) ∧ w' = w := by
  have HY : Hid _ := hy.get
  have HR : Hid _ := hr
  have HC : Hid (∀ v : Int, v ∈ xs → Calls Tryz.prog 17 #[.slice ao xs.length c, .int .i64 v] w fun e w' => e = .returned (.bool true) ∧ w' = w) := fun v hv => has_any true xs v ao c w hx h4 (by simp [hv])
  clear hy hr hx
  go_enter Tryz.func20, Tryz.ntmps20
  go_wp2_with fail
  go_loopw [5] (fun i wr => ∃ k : Nat, k ≤ ys.length ∧ i = .int .i64 k ∧ wr = w) (fun i _ => ys.length - (intOf i).toNat)
  case atStart => exact ⟨0, Nat.zero_le _, rfl, rfl⟩
  case round =>
    obtain ⟨k, hk, rfl, rfl⟩ := hrel
    by_cases hkl : k < ys.length
    · have hki : (k : Int) < (ys.length : Int) := by omega
      obtain ⟨yb, yo, rfl, _, _, y0⟩ := HY.out k hkl
      have H1 : Hid _ := HC.out _ (HR.out _ (List.getElem_mem hkl))
      generalize ys[k] = y at *
      go_wp2_with (go_at_call 17; refine Calls.mono H1.out ?_; rintro e w2 ⟨rfl, e2⟩; subst w2)
      go_roundw
      case rel => exact ⟨k + 1, by omega, by go_num, trivial⟩
      case measure => simp [intOf]; omega
    · obtain rfl : k = ys.length := by omega
      have hki : ¬ (ys.length : Int) < (ys.length : Int) := by omega
      go_wp2_with fail
      go_ret
      exact ⟨rfl, rfl⟩
end Go.Proofs.YtdocbgfpnaiijaaGreat
