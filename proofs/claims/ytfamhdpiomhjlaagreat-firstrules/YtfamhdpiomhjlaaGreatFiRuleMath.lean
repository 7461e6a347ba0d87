/-
  The plain mathematics of the law FirstRules: a symbol's set out of its rules' right sides; two rows, one behind the other.
-/
import Derived.Test.YtfamhdpiomhjlaaGreatFiMark
namespace Go.Proofs.YtfamhdpiomhjlaaGreat
open Go.RowKit Go.Conc

theorem Fi.ofG_mem {g : Gr.Gm} {l : List Int} (ho : Fi.okG g l = true) {t : Int} : t ∈ Fi.ofG g l ↔ ∃ x ∈ Fi.heads (Nl.of g) l, Fi.Beg g.rules (Nl.of g) g.terms.length x t := by
  have hs : ∀ s ∈ l, 0 ≤ s ∧ s < ((g.terms.length + g.names.length : Nat) : Int) := Fi.syms_iff.1 (by unfold Fi.okG at ho; simp only [Bool.and_eq_true] at ho; exact ho.2)
  unfold Fi.ofG
  rw [if_pos ho, Fi.mem_rise, Fi.ofL_at (Fi.tab_shape g)]
  constructor
  · rintro ⟨x, hx, q⟩
    exact ⟨x, hx, (Fi.rows_has (hs x (Fi.heads_mem hx)).1 (hs x (Fi.heads_mem hx)).2).1 q⟩
  · rintro ⟨x, hx, q⟩
    exact ⟨x, hx, (Fi.rows_has (hs x (Fi.heads_mem hx)).1 (hs x (Fi.heads_mem hx)).2).2 q⟩
theorem Fi.ofG_in {g : Gr.Gm} {l : List Int} : ∀ t ∈ Fi.ofG g l, 0 ≤ t ∧ t < g.terms.length := fun t ht => by
  by_cases ho : Fi.okG g l = true
  · obtain ⟨x, _, q⟩ := (Fi.ofG_mem ho).1 ht
    exact q.term
  · rw [Fi.ofG, if_neg ho] at ht; simp at ht
theorem Fi.ofG_short (g : Gr.Gm) (l : List Int) : (Fi.ofG g l).length ≤ g.terms.length := by
  unfold Fi.ofG
  split
  · exact Nat.le_trans (Fi.riseTo_len _ _) (by rw [Fi.ofL_len]; exact Nat.le_refl _)
  · exact Nat.zero_le _
theorem Fi.ofG_sorted (g : Gr.Gm) (l : List Int) : (Fi.ofG g l).Pairwise (· < ·) := by
  unfold Fi.ofG
  split
  · exact Fi.rise_sorted _
  · exact .nil

/-- what is marked for the symbol b, by its own rules among the first r -/
noncomputable def Fi.acc (g : Gr.Gm) (b : Nat) : Nat → List Bool
  | 0 => if b < g.terms.length then Nl.tell (List.replicate g.terms.length false) (b : Int) else List.replicate g.terms.length false
  | r + 1 => if (g.rules.getD r (0, [])).1 = (b : Int) then (Fi.ofG g (g.rules.getD r (0, [])).2).foldl Nl.tell (Fi.acc g b r) else Fi.acc g b r
theorem Fi.acc_len (g : Gr.Gm) (b : Nat) : ∀ r, (Fi.acc g b r).length = g.terms.length
  | 0 => by unfold Fi.acc; split <;> simp [Nl.tell_len]
  | r + 1 => by
    unfold Fi.acc
    split
    · rw [Fi.foldTell_len, Fi.acc_len g b r]
    · exact Fi.acc_len g b r
theorem Fi.acc_own {g : Gr.Gm} {b r : Nat} (h : r < g.rules.length) (e : g.rules[r].1 = (b : Int)) : Fi.acc g b (r + 1) = (Fi.ofG g g.rules[r].2).foldl Nl.tell (Fi.acc g b r) := by
  have : g.rules.getD r (0, []) = g.rules[r] := by simp [List.getD_eq_getElem?_getD, h]
  show (if (g.rules.getD r (0, [])).1 = (b : Int) then _ else _) = _
  rw [this, if_pos e]
theorem Fi.acc_other {g : Gr.Gm} {b r : Nat} (h : r < g.rules.length) (e : g.rules[r].1 ≠ (b : Int)) : Fi.acc g b (r + 1) = Fi.acc g b r := by
  have : g.rules.getD r (0, []) = g.rules[r] := by simp [List.getD_eq_getElem?_getD, h]
  show (if (g.rules.getD r (0, [])).1 = (b : Int) then _ else _) = _
  rw [this, if_neg e]
theorem Fi.acc_at (g : Gr.Gm) (b : Nat) (t : Int) : ∀ r, r ≤ g.rules.length → (Nl.isAt (Fi.acc g b r) t = true ↔ (t = (b : Int) ∧ b < g.terms.length) ∨ ∃ q ∈ g.rules.take r, q.1 = (b : Int) ∧ t ∈ Fi.ofG g q.2)
  | 0, _ => by
    have e : Fi.acc g b 0 = if b < g.terms.length then Nl.tell (List.replicate g.terms.length false) (b : Int) else List.replicate g.terms.length false := rfl
    rw [e]
    by_cases hb : b < g.terms.length
    · rw [if_pos hb]
      constructor
      · intro h
        rcases Nl.tell_back (by omega) h with rfl | h
        · exact .inl ⟨rfl, hb⟩
        · rw [Fi.none_at] at h; cases h
      · rintro (⟨rfl, _⟩ | ⟨q, hq, _⟩)
        · exact Nl.tell_at (by omega) (by simp; exact hb)
        · simp at hq
    · rw [if_neg hb, Fi.none_at]
      constructor
      · intro h; cases h
      · rintro (⟨_, h⟩ | ⟨q, hq, _⟩)
        · exact absurd h hb
        · simp at hq
  | r + 1, h => by
    have hr : r < g.rules.length := h
    have ih := Fi.acc_at g b t r (by omega)
    have et : g.rules.take (r + 1) = g.rules.take r ++ [g.rules[r]] := by rw [List.take_add_one, List.getElem?_eq_getElem hr]; rfl
    by_cases e : g.rules[r].1 = (b : Int)
    · rw [Fi.acc_own hr e, Fi.foldTell_at (Fi.acc_len g b r) Fi.ofG_in, ih, et]
      constructor
      · rintro ((h | ⟨q, hq, h⟩) | h)
        · exact .inl h
        · exact .inr ⟨q, List.mem_append.2 (.inl hq), h⟩
        · exact .inr ⟨_, List.mem_append.2 (.inr (List.mem_singleton.2 rfl)), e, h⟩
      · rintro (h | ⟨q, hq, h1, h2⟩)
        · exact .inl (.inl h)
        · rcases List.mem_append.1 hq with hq | hq
          · exact .inl (.inr ⟨q, hq, h1, h2⟩)
          · rw [List.mem_singleton] at hq
            subst hq
            exact .inr h2
    · rw [Fi.acc_other hr e, ih, et]
      constructor
      · rintro (h | ⟨q, hq, h⟩)
        · exact .inl h
        · exact .inr ⟨q, List.mem_append.2 (.inl hq), h⟩
      · rintro (h | ⟨q, hq, h1, h2⟩)
        · exact .inl h
        · rcases List.mem_append.1 hq with hq | hq
          · exact .inr ⟨q, hq, h1, h2⟩
          · rw [List.mem_singleton] at hq
            subst hq
            exact absurd h1 e
/-- a rule's right side may be asked -/
theorem Fi.okG_rule {g : Gr.Gm} (hg : Gr.good g = true) {q : Gr.Rl} (hq : q ∈ g.rules) : Fi.okG g q.2 = true := by
  unfold Fi.okG
  rw [hg, Bool.true_and]
  exact Fi.syms_iff.2 fun s hs => (Nl.fit_of hg).right _ hq s hs
/-- all rules looked at, the symbol's set is what is marked -/
theorem Fi.acc_end {g : Gr.Gm} (hg : Gr.good g = true) (b : Nat) (hb : b < g.terms.length + g.names.length) : Fi.rise (Fi.acc g b g.rules.length) = (Fi.setsG g).getD b [] := by
  have e := Fi.setsG_get hg b hb
  rw [e]
  refine Fi.rising_ext (Fi.rise_sorted _) (Fi.rise_sorted _) fun t => ?_
  rw [← e, Fi.setsG_mem hg b hb, Fi.mem_rise, Fi.acc_at g b t _ (Nat.le_refl _), List.take_length]
  constructor
  · rintro (⟨rfl, h⟩ | ⟨q, hq, h1, h2⟩)
    · exact .own _ (by omega) (by omega)
    · obtain ⟨x, hx, k⟩ := (Fi.ofG_mem (Fi.okG_rule hg hq)).1 h2
      rw [← h1]
      exact .up q hq x hx t k
  · intro h
    have ht := h.term
    rcases h.cases' with h | ⟨q, hq, h1, x, hx, k⟩
    · exact .inl ⟨h.symm, by omega⟩
    · exact .inr ⟨q, hq, h1, (Fi.ofG_mem (Fi.okG_rule hg hq)).2 ⟨x, hx, k⟩⟩

theorem Fi.okG_two {g : Gr.Gm} {p q : List Int} (hp : Fi.okG g p = true) (hq : Fi.okG g q = true) : Fi.okG g (p ++ q) = true := by
  unfold Fi.okG at hp hq ⊢
  simp only [Bool.and_eq_true] at hp hq ⊢
  refine ⟨hp.1, Fi.syms_iff.2 fun s hs => ?_⟩
  rcases List.mem_append.1 hs with hs | hs
  · exact Fi.syms_iff.1 hp.2 s hs
  · exact Fi.syms_iff.1 hq.2 s hs
/-- two rows, one behind the other -/
theorem Fi.ofG_two {g : Gr.Gm} {p q : List Int} (hp : Fi.okG g p = true) (hq : Fi.okG g q = true) :
    Fi.rise (if Nl.all g p = true then (Fi.ofG g q).foldl Nl.tell ((Fi.ofG g p).foldl Nl.tell (List.replicate g.terms.length false)) else (Fi.ofG g p).foldl Nl.tell (List.replicate g.terms.length false)) = Fi.ofG g (p ++ q) := by
  have hg : Gr.good g = true := by unfold Fi.okG at hp; simp only [Bool.and_eq_true] at hp; exact hp.1
  have ha : Nl.all g p = Nl.allIn (Nl.of g) p := by unfold Nl.all; rw [hg, Bool.true_and]
  refine Fi.rising_ext (Fi.rise_sorted _) (Fi.ofG_sorted _ _) fun t => ?_
  rw [Fi.mem_rise, Fi.ofG_mem (Fi.okG_two hp hq), Fi.heads_append, ha]
  have h1 : ∀ t, Nl.isAt ((Fi.ofG g p).foldl Nl.tell (List.replicate g.terms.length false)) t = true ↔ t ∈ Fi.ofG g p := fun t => by
    rw [Fi.foldTell_at (n := g.terms.length) (by simp) Fi.ofG_in, Fi.none_at]; simp
  by_cases h : Nl.allIn (Nl.of g) p = true
  · rw [if_pos h, if_pos h, Fi.foldTell_at (n := g.terms.length) (by rw [Fi.foldTell_len]; simp) Fi.ofG_in, h1, Fi.ofG_mem hp, Fi.ofG_mem hq]
    constructor
    · rintro (⟨x, hx, k⟩ | ⟨x, hx, k⟩)
      · exact ⟨x, List.mem_append.2 (.inl hx), k⟩
      · exact ⟨x, List.mem_append.2 (.inr hx), k⟩
    · rintro ⟨x, hx, k⟩
      rcases List.mem_append.1 hx with hx | hx
      · exact .inl ⟨x, hx, k⟩
      · exact .inr ⟨x, hx, k⟩
  · rw [if_neg h, if_neg h, h1, Fi.ofG_mem hp, List.append_nil]
end Go.Proofs.YtfamhdpiomhjlaaGreat
