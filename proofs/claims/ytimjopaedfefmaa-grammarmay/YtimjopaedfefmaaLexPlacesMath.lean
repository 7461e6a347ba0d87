/-
  Plain facts behind LexPlaces: each token stands in the text where it says, one behind the other, with gaps alone between; a fault lies within the text.
-/
import Derived.Test.YtimjopaedfefmaaLexTokens
namespace Go.Proofs.Ytimjopaedfefmaa.Lx

/-- a token as it is written -/
def written (k : Nat) (x : List UInt8) : List UInt8 := if k = 2 then 39 :: (x ++ [39]) else x

/-- tokens from a byte on: gaps alone between them, each written where it says -/
def Chain (l : List UInt8) : Nat → List Tok → Prop
  | p, [] => p ≤ l.length ∧ p + gap false (l.drop p) = l.length
  | p, t :: r => p ≤ l.length ∧ t.pos = p + gap false (l.drop p) ∧ 1 ≤ (written t.kind t.text).length ∧ t.pos + (written t.kind t.text).length ≤ l.length ∧
      (l.drop t.pos).take (written t.kind t.text).length = written t.kind t.text ∧ Chain l (t.pos + (written t.kind t.text).length) r

theorem takeWhile_next {p : UInt8 → Bool} : ∀ {l : List UInt8}, (l.takeWhile p).length < l.length → ∃ c r, l = l.takeWhile p ++ c :: r ∧ p c = false
  | [], h => by simp at h
  | c :: r, h => by
    cases hc : p c
    · exact ⟨c, r, by rw [List.takeWhile_cons_of_neg (by simp [hc])]; rfl, hc⟩
    · rw [List.takeWhile_cons_of_pos hc] at h ⊢
      obtain ⟨d, q, hq, hd⟩ := takeWhile_next (p := p) (l := r) (by simpa using h)
      exact ⟨d, q, by rw [List.cons_append, ← hq], hd⟩

theorem tokenAt_written {l : List UInt8} {t : Nat × List UInt8 × Nat} (h : tokenAt l = some t) : l.take t.2.2 = written t.1 t.2.1 ∧ (written t.1 t.2.1).length = t.2.2 := by
  cases l with
  | nil => simp [tokenAt] at h
  | cons c r =>
    rw [tokenAt] at h
    by_cases b1 : (c == 61) = true
    · rw [if_pos b1] at h; cases h
      have : c = 61 := by simpa using b1
      subst this; exact ⟨rfl, rfl⟩
    rw [if_neg b1] at h
    by_cases b2 : (c == 124) = true
    · rw [if_pos b2] at h; cases h
      have : c = 124 := by simpa using b2
      subst this; exact ⟨rfl, rfl⟩
    rw [if_neg b2] at h
    by_cases b3 : (c == 59) = true
    · rw [if_pos b3] at h; cases h
      have : c = 59 := by simpa using b3
      subst this; exact ⟨rfl, rfl⟩
    rw [if_neg b3] at h
    by_cases b4 : (c == 39) = true
    · rw [if_pos b4] at h
      have e : c = 39 := by simpa using b4
      subst e
      by_cases b5 : (r.takeWhile (fun x => !(x == 39))).length < r.length ∧ isTerm (r.takeWhile (fun x => !(x == 39))) = true
      · rw [if_pos b5] at h; cases h
        obtain ⟨d, q, hq, hd⟩ := takeWhile_next b5.1
        have hd' : d = 39 := by simpa using hd
        subst hd'
        generalize r.takeWhile (fun x => !(x == 39)) = x at *
        subst hq
        refine ⟨?_, by simp [written]⟩
        have e1 : (39 :: (x ++ 39 :: q)) = (39 :: (x ++ [39])) ++ q := by simp
        have e2 : x.length + 2 = (39 :: (x ++ [39])).length := by simp
        show (39 :: (x ++ 39 :: q)).take (x.length + 2) = 39 :: (x ++ [39])
        rw [e1, e2, List.take_left]
      · rw [if_neg b5] at h; cases h
    rw [if_neg b4] at h
    by_cases b6 : isName ((c :: r).takeWhile mr) = true
    · rw [if_pos b6] at h; cases h
      exact ⟨tw_take _ _, rfl⟩
    · rw [if_neg b6] at h; cases h

theorem run_chain (l : List UInt8) : ∀ (f p : Nat) (ts : List Tok), p ≤ l.length → l.length < p + gap false (l.drop p) + f → run f (l.drop (p + gap false (l.drop p))) (p + gap false (l.drop p)) = .ok ts → Chain l p ts
  | 0, p, ts, hp, hf, h => by
    have := gap_le false (l.drop p)
    rw [List.length_drop] at this
    omega
  | f + 1, p, ts, hp, hf, h => by
    have hg := gap_le false (l.drop p)
    rw [List.length_drop] at hg
    rcases run_cases h with rfl | ⟨g, t, us, hfg, ht, rfl, hr⟩
    · refine ⟨hp, ?_⟩
      apply Decidable.byContradiction
      intro hne
      have hlt : p + gap false (l.drop p) < l.length := by omega
      cases hd : l.drop (p + gap false (l.drop p)) with
      | nil =>
        have := congrArg List.length hd
        rw [List.length_drop] at this
        simp at this
        omega
      | cons c r =>
        rw [hd] at h
        cases ht : tokenAt (c :: r) with
        | none => rw [run_none (by simp) ht] at h; cases h
        | some t =>
          rw [run_some ht] at h
          cases hx : run f (((c :: r).drop t.2.2).drop (gap false ((c :: r).drop t.2.2))) (p + gap false (l.drop p) + t.2.2 + gap false ((c :: r).drop t.2.2)) with
          | error q => rw [hx] at h; cases h
          | ok us => rw [hx] at h; cases h
    · obtain rfl : f = g := by omega
      obtain ⟨h1, h2⟩ := tokenAt_len ht
      obtain ⟨h3, h4⟩ := tokenAt_written ht
      rw [List.length_drop] at h2
      refine ⟨hp, rfl, by rw [h4]; exact h1, by rw [h4]; show p + gap false (l.drop p) + _ ≤ _; omega, by rw [h4]; exact h3, ?_⟩
      show Chain l (p + gap false (l.drop p) + (written t.1 t.2.1).length) us
      rw [h4]
      rw [List.drop_drop (i := t.2.2), List.drop_drop] at hr
      exact run_chain l f _ us (by omega) (by omega) hr

theorem tokens_chain {l : List UInt8} {ts : List Tok} (h : tokens l = .ok ts) : Chain l 0 ts := by
  refine run_chain l (l.length + 1) 0 ts (Nat.zero_le _) (by omega) ?_
  rw [List.drop_zero, Nat.zero_add]
  exact h

theorem run_error : ∀ (f : Nat) (l : List UInt8) (p q : Nat), run f l p = .error q → p ≤ q ∧ q < p + l.length
  | 0, l, p, q, h => by rw [run] at h; cases h
  | f + 1, [], p, q, h => by rw [run] at h; cases h
  | f + 1, c :: r, p, q, h => by
    cases ht : tokenAt (c :: r) with
    | none => rw [run_none (by simp) ht] at h; cases h; simp
    | some t =>
      rw [run_some ht] at h
      cases hx : run f (((c :: r).drop t.2.2).drop (gap false ((c :: r).drop t.2.2))) (p + t.2.2 + gap false ((c :: r).drop t.2.2)) with
      | ok us => rw [hx] at h; cases h
      | error z =>
        rw [hx] at h; cases h
        have h1 := run_error f _ _ _ hx
        have h2 := tokenAt_len ht
        simp only [List.length_drop] at h1
        omega

theorem tokens_error {l : List UInt8} {q : Nat} (h : tokens l = .error q) : q < l.length := by
  have := run_error _ _ _ _ h
  rw [List.length_drop] at this
  omega

theorem gap_true_nil {l : List UInt8} (h : gap true l = 0) : l = [] := by
  cases l with
  | nil => rfl
  | cons c r => rw [gap] at h; split at h <;> omega

theorem gap_true_newline {c : UInt8} {r : List UInt8} (h : (c == 10) = true) : gap true (c :: r) = gap false (c :: r) := by
  rw [gap_blank (by simp [h]), gap, if_pos h]
theorem gap_true_more {c : UInt8} {r : List UInt8} (h : (c == 10) = false) : gap true (c :: r) = 1 + gap true r := by
  rw [gap, if_neg (by simp [h])]
theorem gap_hash {c : UInt8} {r : List UInt8} (h : (c == 35) = true) : gap false (c :: r) = gap true (c :: r) := by
  have e : c = 35 := by simpa using h
  subst e
  rw [gap, gap, if_neg (by decide), if_pos (by decide), if_neg (by decide)]
theorem gap_pos {c : UInt8} {r : List UInt8} (h : 0 < gap false (c :: r)) (h2 : (c == 35) = false) : (c == 32 || c == 9 || c == 10) = true := by
  cases h1 : (c == 32 || c == 9 || c == 10)
  · rw [gap_else h1 h2] at h; omega
  · rfl

end Go.Proofs.Ytimjopaedfefmaa.Lx
