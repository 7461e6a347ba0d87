/-
  Plain facts behind LexNames: a name by itself is one token; what may stand in a quote is, in quotes, one token.
-/
import Derived.Test.YtpeleedpbdnhmaaLexLib
import Derived.Test.YtpeleedpbdnhmaaLexTokens
namespace Go.Proofs.Ytpeleedpbdnhmaa

/-- what the law's loop has gathered after k bytes -/
def nmB (l : List UInt8) (k : Nat) : Bool := (decide (1 ≤ l.length) && decide (l.length ≤ 16)) && ((decide (k = 0) || Lx.lt (l.headD 0)) && (l.take k).all Lx.mr)
def tmB (l : List UInt8) (k : Nat) : Bool := (decide (1 ≤ l.length) && decide (l.length ≤ 16)) && (l.take k).all Lx.tm

theorem take_snoc (s : ByteArray) (k : Nat) (h : k < s.size) : s.data.toList.take (k + 1) = s.data.toList.take k ++ [s[k]] := by
  rw [List.take_succ_eq_append_getElem (by simpa using h)]; rfl

theorem headD_zero (s : ByteArray) (h : 0 < s.size) : s.data.toList.headD 0 = s[0] := by
  have := Lx.drop_cons s 0 h
  rw [List.drop_zero] at this
  rw [this]; rfl

theorem nmB_step (s : ByteArray) (k : Nat) (h : k < s.size) :
    nmB s.data.toList (k + 1) = (nmB s.data.toList k && (Lx.lt s[k] || (decide (0 < k) && (Lx.dg s[k] || s[k] == 95)))) := by
  have e := take_snoc s k h
  cases k with
  | zero =>
    have hd := headD_zero s h
    unfold nmB
    rw [e, hd]
    cases hl : Lx.lt s[0] <;> simp [Lx.mr, hl]
  | succ k =>
    unfold nmB
    rw [e, List.all_append]
    cases hl : Lx.lt (s.data.toList.headD 0)
    · simp
    · simp only [List.all_cons, List.all_nil, Bool.and_true, Bool.or_true, Bool.true_and, Lx.mr, Bool.or_assoc, Bool.and_assoc, decide_true, show (0 < k + 1) = True from by simp]
theorem tmB_step (s : ByteArray) (k : Nat) (h : k < s.size) : tmB s.data.toList (k + 1) = (tmB s.data.toList k && Lx.tm s[k]) := by
  unfold tmB
  rw [take_snoc s k h, List.all_append]
  simp only [List.all_cons, List.all_nil, Bool.and_true, Bool.and_assoc]

theorem nmB_end (l : List UInt8) : nmB l l.length = Lx.isName l := by
  cases l with
  | nil => rfl
  | cons c r => unfold nmB Lx.isName; rw [List.take_length]; simp only [List.length_cons, Nat.add_eq_zero_iff, Nat.one_ne_zero, and_false, decide_false, Bool.false_or, Bool.and_assoc]
theorem tmB_end (l : List UInt8) : tmB l l.length = Lx.isTerm l := by
  unfold tmB Lx.isTerm; rw [List.take_length]

theorem lt_not {c : UInt8} (h : Lx.lt c = true) : (c == 61) = false ∧ (c == 124) = false ∧ (c == 59) = false ∧ (c == 39) = false ∧ (c == 32) = false ∧ (c == 9) = false ∧ (c == 10) = false ∧ (c == 35) = false := by
  rw [Lx.lt_eq] at h
  simp only [decide_eq_true_eq] at h
  simp only [Lx.eq_nat, decide_eq_false_iff_not]
  have e1 : ((61 : UInt8).toNat : Int) = 61 := rfl
  have e2 : ((124 : UInt8).toNat : Int) = 124 := rfl
  have e3 : ((59 : UInt8).toNat : Int) = 59 := rfl
  have e4 : ((39 : UInt8).toNat : Int) = 39 := rfl
  have e5 : ((32 : UInt8).toNat : Int) = 32 := rfl
  have e6 : ((9 : UInt8).toNat : Int) = 9 := rfl
  have e7 : ((10 : UInt8).toNat : Int) = 10 := rfl
  have e8 : ((35 : UInt8).toNat : Int) = 35 := rfl
  rw [e1, e2, e3, e4, e5, e6, e7, e8]
  omega

theorem takeWhile_all {p : UInt8 → Bool} : ∀ {l : List UInt8}, l.all p = true → l.takeWhile p = l
  | [], _ => rfl
  | c :: r, h => by
    simp only [List.all_cons, Bool.and_eq_true] at h
    rw [List.takeWhile_cons_of_pos h.1, takeWhile_all h.2]

theorem name_tokens {l : List UInt8} (h : Lx.isName l = true) : tokensG l = (0, 0, [⟨1, l, 0⟩]) := by
  have h' := h
  simp only [Lx.isName, Bool.and_eq_true, decide_eq_true_eq] at h'
  obtain ⟨⟨⟨h1, h2⟩, h3⟩, h4⟩ := h'
  cases l with
  | nil => simp at h1
  | cons c r =>
    have h3' : Lx.lt c = true := h3
    obtain ⟨b1, b2, b3, b4, b5, b6, b7, b8⟩ := lt_not h3'
    have hg : Lx.gap false (c :: r) = 0 := Lx.gap_else (by rw [b5, b6, b7]; rfl) b8
    have ht : Lx.tokenAt (c :: r) = some (1, c :: r, (c :: r).length) := by
      rw [Lx.tokenAt, takeWhile_all h4, if_neg (by simp [b1]), if_neg (by simp [b2]), if_neg (by simp [b3]), if_neg (by simp [b4]), if_pos h]
    have hk : Lx.tokens (c :: r) = .ok [⟨1, c :: r, 0⟩] := by
      rw [Lx.tokens, hg, List.drop_zero, Lx.run_some ht]
      simp only [List.drop_length]
      simp [Lx.run, Lx.gap, Lx.pre]
    unfold tokensG
    rw [if_neg (by omega), hk]

theorem tokens_name {l : List UInt8} {E At : Int} (h : tokensG l = (E, At, [⟨1, l, 0⟩])) : Lx.isName l = true := by
  have hg : ∀ t ∈ (tokensG l).2.2, Lx.Good t.kind t.text := by
    unfold tokensG
    split
    · simp
    · split
      · rename_i ts h; exact Lx.tokens_good h
      · simp
  have := hg ⟨1, l, 0⟩ (by rw [h]; simp)
  rcases this with ⟨_, h⟩ | ⟨h, _⟩ | ⟨h, _⟩ | ⟨h, _⟩ | ⟨h, _⟩
  · exact h
  all_goals simp at h

theorem tm_not {c : UInt8} (h : Lx.tm c = true) : (c == 39) = false := by
  simp only [Lx.tm, Bool.and_eq_true] at h
  simpa using h.2

theorem takeWhile_quote : ∀ {l : List UInt8}, l.all Lx.tm = true → (l ++ [39]).takeWhile (fun x => !(x == 39)) = l
  | [], _ => rfl
  | c :: r, h => by
    simp only [List.all_cons, Bool.and_eq_true] at h
    rw [List.cons_append, List.takeWhile_cons_of_pos (by simp [tm_not h.1]), takeWhile_quote h.2]

theorem term_tokens {l : List UInt8} (h : Lx.isTerm l = true) : tokensG (39 :: (l ++ [39])) = (0, 0, [⟨2, l, 0⟩]) := by
  have h' := h
  simp only [Lx.isTerm, Bool.and_eq_true, decide_eq_true_eq] at h'
  obtain ⟨⟨h1, h2⟩, h4⟩ := h'
  have hg : Lx.gap false (39 :: (l ++ [39])) = 0 := Lx.gap_else (by decide) (by decide)
  have ht : Lx.tokenAt (39 :: (l ++ [39])) = some (2, l, l.length + 2) := by
    rw [Lx.tokenAt, takeWhile_quote h4, if_neg (by decide), if_neg (by decide), if_neg (by decide), if_pos (by decide), if_pos ⟨by simp, h⟩]
  have hk : Lx.tokens (39 :: (l ++ [39])) = .ok [⟨2, l, 0⟩] := by
    have e : (39 :: (l ++ [39])).drop (l.length + 2) = [] := List.drop_of_length_le (by simp)
    rw [Lx.tokens, hg, List.drop_zero, Lx.run_some ht]
    simp only [e]
    simp [Lx.run, Lx.gap, Lx.pre]
  unfold tokensG
  rw [if_neg (by simp; omega), hk]

theorem tokens_term {l q : List UInt8} {E At : Int} (h : tokensG q = (E, At, [⟨2, l, 0⟩])) : Lx.isTerm l = true := by
  have hg : ∀ t ∈ (tokensG q).2.2, Lx.Good t.kind t.text := by
    unfold tokensG
    split
    · simp
    · split
      · rename_i ts h; exact Lx.tokens_good h
      · simp
  have := hg ⟨2, l, 0⟩ (by rw [h]; simp)
  rcases this with ⟨h, _⟩ | ⟨_, h⟩ | ⟨h, _⟩ | ⟨h, _⟩ | ⟨h, _⟩
  · simp at h
  · exact h
  all_goals simp at h
end Go.Proofs.Ytpeleedpbdnhmaa
