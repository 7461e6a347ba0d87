/-
  The plain mathematics of layer 3: step by step, whether a grammar may be.
-/
import Derived.Test.YtimjopaedfefmaaGrMath
namespace Go.Proofs.Ytimjopaedfefmaa.Gr

theorem each_fail {α : Type} [DecidableEq α] {p : α → Bool} {l : List α} (k : Nat) (h : k < l.length) (hf : (p l[k] && !has l[k] (l.take k)) = false) : each p l = false := by
  unfold each
  rw [List.all_eq_false]
  exact ⟨k, List.mem_range.2 h, by simp [List.getElem?_eq_getElem h, hf]⟩
theorem each_all {α : Type} [DecidableEq α] {p : α → Bool} {l : List α} (h : ∀ k (hk : k < l.length), (p l[k] && !has l[k] (l.take k)) = true) : each p l = true := by
  unfold each
  rw [List.all_eq_true]
  intro k hk
  have hk := List.mem_range.1 hk
  simp only [List.getElem?_eq_getElem hk]
  exact h k hk
theorem each_get {α : Type} [DecidableEq α] {p : α → Bool} {l : List α} (h : each p l = true) (k : Nat) (hk : k < l.length) : p l[k] = true ∧ l[k] ∉ l.take k := by
  unfold each at h
  rw [List.all_eq_true] at h
  have := h k (List.mem_range.2 hk)
  simp only [List.getElem?_eq_getElem hk, Bool.and_eq_true, Bool.not_eq_true'] at this
  exact ⟨this.1, has_no this.2⟩

theorem comes_large {x : Int} {r : List Int} {n : Int} (h : n < x) : comes (x :: r) n = none := by rw [comes, if_pos h]
theorem comes_next {x : Int} {r : List Int} {n : Int} (h : x = n) : comes (x :: r) n = comes r (n + 1) := by rw [comes, if_neg (by omega), if_pos h]
theorem comes_came {x : Int} {r : List Int} {n : Int} (h : ¬ n < x) (h2 : ¬ x = n) : comes (x :: r) n = comes r n := by rw [comes, if_neg h, if_neg h2]

theorem getD_at {α : Type} (l : List α) (i : Nat) (d : α) (h : i < l.length) : l.getD i d = l[i] := by simp [List.getD, List.getElem?_eq_getElem h]
theorem seen_step (p : Int → Bool) (rs : List Rl) (k : Nat) (h : k < rs.length) : (rs.take (k + 1)).flatMap (fun r => r.2.filter p) = (rs.take k).flatMap (fun r => r.2.filter p) ++ rs[k].2.filter p := by
  rw [List.take_add_one, List.getElem?_eq_getElem h, List.flatMap_append]; simp
theorem filter_step (p : Int → Bool) (xs : List Int) (k : Nat) (h : k < xs.length) : (xs.take (k + 1)).filter p = (xs.take k).filter p ++ (if p xs[k] then [xs[k]] else []) := by
  rw [List.take_add_one, List.getElem?_eq_getElem h, List.filter_append]
  show _ ++ List.filter p [xs[k]] = _
  rw [List.filter_cons]; split <;> rfl
theorem seen_len (p : Int → Bool) (rs : List Rl) (h8 : ∀ r ∈ rs, r.2.length ≤ 8) (k : Nat) : ((rs.take k).flatMap (fun r => r.2.filter p)).length ≤ k * 8 := by
  induction k with
  | zero => simp
  | succ k ih =>
    by_cases h : k < rs.length
    · rw [seen_step p rs k h, List.length_append]
      have h1 := List.length_filter_le p rs[k].2
      have h2 := h8 rs[k] (List.getElem_mem h)
      omega
    · rw [List.take_of_length_le (by omega)] at ih ⊢; omega
end Go.Proofs.Ytimjopaedfefmaa.Gr
