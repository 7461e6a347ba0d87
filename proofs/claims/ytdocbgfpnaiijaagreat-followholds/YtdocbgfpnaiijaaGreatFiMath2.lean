/-
  The plain mathematics of layer 8 (first), second part: what is marked, gathered, sorted and made compact is the rising list of what is told.
-/
import Derived.Test.YtdocbgfpnaiijaaGreatFiMath
import Derived.Lib.SlicesCompact
namespace Go.Proofs.YtdocbgfpnaiijaaGreat.Fi
open Go.Proofs.YtdocbgfpnaiijaaGreat.Gr Go.Proofs.YtdocbgfpnaiijaaGreat.Nl

/-- symbols are marked -/
def marks (n : Nat) (xs : List Int) : List Bool := xs.foldl tell (List.replicate n false)
theorem marks_len (n : Nat) (xs : List Int) : (marks n xs).length = n := by
  have h : ∀ (xs : List Int) (b : List Bool), (xs.foldl tell b).length = b.length := by
    intro xs; induction xs with
    | nil => intro b; rfl
    | cons x xs ih => intro b; rw [List.foldl_cons, ih, tell_len]
  unfold marks; rw [h]; simp
theorem marks_step (n : Nat) (xs : List Int) (k : Nat) (h : k < xs.length) : marks n (xs.take (k + 1)) = tell (marks n (xs.take k)) xs[k] := by
  unfold marks
  rw [List.take_add_one, List.getElem?_eq_getElem h, List.foldl_append]; rfl
theorem marks_at {n : Nat} {xs : List Int} (hx : ∀ x ∈ xs, 0 ≤ x ∧ x < n) (s : Int) : isAt (marks n xs) s = true ↔ s ∈ xs := by
  have key : ∀ (xs : List Int) (b : List Bool), b.length = n → (∀ x ∈ xs, 0 ≤ x ∧ x < n) → (isAt (xs.foldl tell b) s = true ↔ (isAt b s = true ∨ s ∈ xs)) := by
    intro xs; induction xs with
    | nil => intro b _ _; simp
    | cons x xs ih =>
      intro b hb hx
      have h0 := hx x (List.mem_cons_self ..)
      rw [List.foldl_cons, ih (tell b x) (by rw [tell_len, hb]) fun y hy => hx y (List.mem_cons_of_mem _ hy)]
      constructor
      · rintro (h | h)
        · rcases tell_back h0.1 h with rfl | h
          · exact .inr (List.mem_cons_self ..)
          · exact .inl h
        · exact .inr (List.mem_cons_of_mem _ h)
      · rintro (h | h)
        · exact .inl ((tell_le _ _).isAt h)
        · rcases List.mem_cons.1 h with rfl | h
          · exact .inl (tell_at h0.1 (by rw [hb]; exact h0.2))
          · exact .inr h
  unfold marks
  rw [key xs _ (by simp) hx]
  constructor
  · rintro (h | h)
    · obtain ⟨h0, h1⟩ := isAt_lt h
      rw [isAt_get h0 (by omega), List.getElem_replicate] at h; cases h
    · exact h
  · exact .inr

/-- what the marked symbols' rows tell, of the first k -/
def gather (ss : List (List Bool)) (ms : List Bool) : Nat → List Int
  | 0 => []
  | k + 1 => gather ss ms k ++ (if ms.getD k false = true then rise (ss.getD k []) else [])
theorem gather_len {ss : List (List Bool)} {ms : List Bool} {T : Nat} (h : ∀ r ∈ ss, r.length = T) : ∀ k, (gather ss ms k).length ≤ k * T
  | 0 => by simp [gather]
  | k + 1 => by
    have h1 := gather_len (ms := ms) h k
    have h2 : (rise (ss.getD k [])).length ≤ T := by
      refine Nat.le_trans (riseTo_len _ _) ?_
      rcases Nat.lt_or_ge k ss.length with q | q
      · have : ss.getD k [] = ss[k] := by simp [List.getD_eq_getElem?_getD, q]
        rw [this, h _ (List.getElem_mem q)]; exact Nat.le_refl _
      · have : ss.getD k [] = [] := by simp [List.getD_eq_getElem?_getD, q]
        rw [this]; simp
    unfold gather
    rw [List.length_append, Nat.add_mul, Nat.one_mul]
    split
    · omega
    · simp only [List.length_nil]; omega
theorem gather_mem {ss : List (List Bool)} {ms : List Bool} {t : Int} : ∀ k, t ∈ gather ss ms k ↔ ∃ s : Nat, s < k ∧ ms.getD s false = true ∧ has ss s t = true
  | 0 => by simp [gather]
  | k + 1 => by
    unfold gather
    rw [List.mem_append, gather_mem k]
    have e : ∀ s : Nat, has ss (s : Int) t = isAt (ss.getD s []) t := fun s => by simp [has, row]
    constructor
    · rintro (⟨s, h1, h2, h3⟩ | h)
      · exact ⟨s, by omega, h2, h3⟩
      · split at h
        · rename_i hm
          exact ⟨k, by omega, hm, by rw [e]; exact mem_rise.1 h⟩
        · simp at h
    · rintro ⟨s, h1, h2, h3⟩
      by_cases q : s < k
      · exact .inl ⟨s, q, h2, h3⟩
      · obtain rfl : s = k := by omega
        rw [if_pos h2]
        exact .inr (mem_rise.2 (by rw [← e]; exact h3))

theorem compact_mem (ys : List Int) (x : Int) : x ∈ Lib.compact ys ↔ x ∈ ys := by
  unfold Lib.compact Lib.compactUpTo
  simp only [List.mem_map, List.mem_filter, List.mem_range]
  constructor
  · rintro ⟨j, ⟨hj, _⟩, rfl⟩
    rw [getElem!_pos ys.toArray j (by simpa using hj)]
    simp
  · intro h
    obtain ⟨j, hj, rfl⟩ := List.getElem_of_mem h
    have key : ∀ j (hj : j < ys.length), ∃ a, (a < ys.length ∧ Lib.keeps ys.toArray a = true) ∧ ys.toArray[a]! = ys[j] := by
      intro j
      induction j with
      | zero => intro hj; exact ⟨0, ⟨hj, by simp [Lib.keeps]⟩, by rw [getElem!_pos ys.toArray 0 (by simpa using hj)]; simp⟩
      | succ j ih =>
        intro hj
        by_cases hk : Lib.keeps ys.toArray (j + 1) = true
        · exact ⟨j + 1, ⟨hj, hk⟩, by rw [getElem!_pos ys.toArray (j + 1) (by simpa using hj)]; simp⟩
        · obtain ⟨a, ha, e⟩ := ih (by omega)
          refine ⟨a, ha, e.trans ?_⟩
          simp only [Lib.keeps, decide_eq_true_eq, not_or, Decidable.not_not] at hk
          have h2 := hk.2
          rw [getElem!_pos ys.toArray (j + 1) (by simpa using hj), getElem!_pos ys.toArray (j + 1 - 1) (by simp; omega)] at h2
          simpa using h2.symm
    exact key j hj
theorem compact_lt {ys : List Int} (h : ys.Pairwise (· ≤ ·)) : (Lib.compact ys).Pairwise (· < ·) := by
  unfold Lib.compact Lib.compactUpTo
  rw [List.pairwise_map, List.pairwise_filter]
  refine List.Pairwise.imp_of_mem ?_ (List.pairwise_lt_range (n := ys.length))
  intro i j hi hj hij _ hk
  rw [List.mem_range] at hi hj
  simp only [Lib.keeps, decide_eq_true_eq] at hk
  rw [getElem!_pos ys.toArray i (by simpa using hi), getElem!_pos ys.toArray j (by simpa using hj)]
  rw [getElem!_pos ys.toArray j (by simpa using hj), getElem!_pos ys.toArray (j - 1) (by simp; omega)] at hk
  simp only [List.getElem_toArray] at hk ⊢
  rw [List.pairwise_iff_getElem] at h
  have h1 : ys[i] ≤ ys[j - 1] := by
    by_cases e : i = j - 1
    · subst e; exact Int.le_refl _
    · exact h i (j - 1) hi (by omega) (by omega)
  have h2 : ys[j - 1] ≤ ys[j] := h (j - 1) j (by omega) hj (by omega)
  rcases hk with e | e
  · omega
  · have : ys[j] ≠ ys[j - 1] := e
    omega
theorem sort_le (zs : List Int) : (zs.mergeSort fun x y => decide (x ≤ y)).Pairwise (· ≤ ·) := by
  have := List.pairwise_mergeSort (le := fun x y : Int => decide (x ≤ y)) (fun a b c h1 h2 => by simp only [decide_eq_true_eq] at *; omega) (fun a b => by simp only [Bool.or_eq_true, decide_eq_true_eq]; omega) zs
  exact this.imp fun h => by simpa using h
theorem sort_mem (zs : List Int) (x : Int) : x ∈ (zs.mergeSort fun x y => decide (x ≤ y)) ↔ x ∈ zs := (List.mergeSort_perm zs _).mem_iff
/-- gathered, sorted, made compact -/
theorem ofL_is {nl : List Bool} {ss : List (List Bool)} {n T : Nat} (h : Shape n T ss) {l : List Int} (hin : ∀ x ∈ heads nl l, 0 ≤ x ∧ x < n) :
    Lib.compact ((gather ss (marks n (heads nl l)) n).mergeSort fun x y => decide (x ≤ y)) = rise (ofL nl ss T l) := by
  refine rising_ext (compact_lt (sort_le _)) (rise_sorted _) fun t => ?_
  rw [compact_mem, sort_mem, gather_mem, mem_rise, ofL_at h]
  constructor
  · rintro ⟨s, h1, h2, h3⟩
    exact ⟨(s : Int), (marks_at hin _).1 (by simpa [isAt] using h2), h3⟩
  · rintro ⟨x, hx, h3⟩
    have := hin x hx
    have h2 := (marks_at hin x).2 hx
    refine ⟨x.toNat, by omega, ?_, ?_⟩
    · simpa [isAt, this.1] using h2
    · rw [show ((x.toNat : Nat) : Int) = x from by omega]; exact h3

/-- each terminal begins with itself: the first k rows -/
def own1 (T k : Nat) : List (List Bool) := (List.range k).map fun (s : Nat) => if s < T then tell (List.replicate T false) (s : Int) else List.replicate T false
theorem own1_zero (T : Nat) : own1 T 0 = [] := rfl
theorem own1_len (T k : Nat) : (own1 T k).length = k := by simp [own1]
theorem own1_succ (T k : Nat) : own1 T (k + 1) = own1 T k ++ [if k < T then tell (List.replicate T false) (k : Int) else List.replicate T false] := by
  simp [own1, List.range_succ]
theorem own1_shape (T n : Nat) : Shape n T (own1 T n) := by
  refine ⟨own1_len T n, fun r hr => ?_⟩
  simp only [own1, List.mem_map, List.mem_range] at hr
  obtain ⟨s, _, rfl⟩ := hr
  split
  · rw [tell_len]; simp
  · simp
theorem none_at (T : Nat) (t : Int) : isAt (List.replicate T false) t = false := by
  cases e : isAt (List.replicate T false) t
  · rfl
  · obtain ⟨h0, h1⟩ := isAt_lt e
    rw [isAt_get h0 (by omega), List.getElem_replicate] at e; cases e
theorem own1_has {T n : Nat} {s t : Int} (h0 : 0 ≤ s) (h1 : s < n) : has (own1 T n) s t = true ↔ s = t ∧ t < T := by
  obtain ⟨hk, e, _⟩ := (own1_shape T n).row h0 h1
  have hs : ((s.toNat : Nat) : Int) = s := by omega
  simp only [has, Bool.and_eq_true, decide_eq_true_eq, e]
  simp only [own1, List.getElem_map, List.getElem_range, hs]
  by_cases q : s.toNat < T
  · rw [if_pos q]
    constructor
    · rintro ⟨_, h⟩
      rcases tell_back h0 h with rfl | h
      · exact ⟨rfl, by omega⟩
      · rw [none_at] at h; cases h
    · rintro ⟨rfl, _⟩
      exact ⟨h0, tell_at h0 (by simp; omega)⟩
  · rw [if_neg q]
    constructor
    · rintro ⟨_, h⟩
      rw [none_at] at h; cases h
    · rintro ⟨rfl, h⟩
      omega
theorem own1_sound {rs : List Rl} {nl : List Bool} {T n : Nat} : Sound rs nl T (own1 T n) := fun s t h => by
  have h1 := ((own1_shape T n).lt h).1
  obtain ⟨rfl, h2⟩ := (own1_has h1.1 h1.2).1 h
  exact .own s h1.1 h2
theorem own1_own {T n : Nat} (h : T ≤ n) : Own T (own1 T n) := fun t h0 h1 => (own1_has h0 (by omega)).2 ⟨rfl, h1⟩
end Go.Proofs.YtdocbgfpnaiijaaGreat.Fi
