/-
  The plain mathematics of layer 1 (lex): names, quotes, gaps, tokens, as functions on lists of bytes. Nothing of the program is imported here.
-/
namespace Go.Proofs.Ytdocbgfpnaiijaa.Lx

/-- a letter -/
def lt (c : UInt8) : Bool := (97 ≤ c && c ≤ 122) || (65 ≤ c && c ≤ 90)
/-- a digit -/
def dg (c : UInt8) : Bool := 48 ≤ c && c ≤ 57
/-- what may stand in a name -/
def mr (c : UInt8) : Bool := lt c || dg c || c == 95
/-- what may stand in a quote -/
def tm (c : UInt8) : Bool := 32 ≤ c && c ≤ 126 && !(c == 39)

theorem lt_eq (c : UInt8) : lt c = decide ((97 ≤ (c.toNat : Int) ∧ (c.toNat : Int) ≤ 122) ∨ (65 ≤ (c.toNat : Int) ∧ (c.toNat : Int) ≤ 90)) := by
  rw [Bool.eq_iff_iff]; simp [lt, UInt8.le_iff_toNat_le]; omega
theorem dg_eq (c : UInt8) : dg c = decide (48 ≤ (c.toNat : Int) ∧ (c.toNat : Int) ≤ 57) := by
  rw [Bool.eq_iff_iff]; simp [dg, UInt8.le_iff_toNat_le]; omega
theorem eq_nat (c d : UInt8) : (c == d) = decide ((c.toNat : Int) = (d.toNat : Int)) := by
  rw [Bool.eq_iff_iff]; simp [← UInt8.toNat_inj]; omega
theorem tm_eq (c : UInt8) : tm c = decide (32 ≤ (c.toNat : Int) ∧ (c.toNat : Int) ≤ 126 ∧ ¬ (c.toNat : Int) = 39) := by
  rw [Bool.eq_iff_iff]; simp [tm, UInt8.le_iff_toNat_le, ← UInt8.toNat_inj]; omega

/-- is it a name? -/
def isName (l : List UInt8) : Bool := decide (1 ≤ l.length) && decide (l.length ≤ 16) && lt (l.headD 0) && l.all mr
/-- may it stand in a quote? -/
def isTerm (l : List UInt8) : Bool := decide (1 ≤ l.length) && decide (l.length ≤ 16) && l.all tm

/-- how many bytes ahead may stand in a name -/
def nameLen (l : List UInt8) : Nat := (l.takeWhile mr).length

theorem nameLen_nil : nameLen [] = 0 := rfl
theorem nameLen_yes {c : UInt8} {r : List UInt8} (h : mr c = true) : nameLen (c :: r) = 1 + nameLen r := by
  unfold nameLen; rw [List.takeWhile_cons_of_pos h, List.length_cons]; omega
theorem nameLen_no {c : UInt8} {r : List UInt8} (h : mr c = false) : nameLen (c :: r) = 0 := by
  unfold nameLen; rw [List.takeWhile_cons_of_neg (by simp [h])]; rfl
theorem nameLen_le (l : List UInt8) : nameLen l ≤ l.length := by
  unfold nameLen; exact (List.takeWhile_sublist _).length_le
theorem nameLen_all (l : List UInt8) : nameLen l = l.length ↔ l.all mr = true := by
  induction l with
  | nil => simp [nameLen]
  | cons c r ih =>
    cases h : mr c
    · rw [nameLen_no h]; simp [h]
    · rw [nameLen_yes h]; simp only [List.length_cons, List.all_cons, h, Bool.true_and, ← ih]; omega

/-- how many bytes ahead are blanks, tabs, newlines and notes ('true': within a note) -/
def gap : Bool → List UInt8 → Nat
  | _, [] => 0
  | false, c :: r => if c == 32 || c == 9 || c == 10 then 1 + gap false r else if c == 35 then 1 + gap true r else 0
  | true, c :: r => if c == 10 then 1 + gap false r else 1 + gap true r

theorem gap_le : ∀ (b : Bool) (l : List UInt8), gap b l ≤ l.length
  | _, [] => by simp [gap]
  | false, c :: r => by
    unfold gap
    have h1 := gap_le false r
    have h2 := gap_le true r
    simp only [List.length_cons]
    split
    · omega
    · split <;> omega
  | true, c :: r => by
    unfold gap
    have h1 := gap_le false r
    have h2 := gap_le true r
    simp only [List.length_cons]
    split <;> omega

theorem tw_take (p : UInt8 → Bool) (l : List UInt8) : l.take (l.takeWhile p).length = l.takeWhile p :=
  (List.prefix_iff_eq_take.1 (List.takeWhile_prefix p)).symm

theorem drop_cons (s : ByteArray) (k : Nat) (h : k < s.size) : s.data.toList.drop k = s[k] :: s.data.toList.drop (k + 1) := by
  rw [List.drop_eq_getElem_cons (by simpa using h)]; rfl

/-- a token: its kind, its text, where it begins -/
structure Tok where
  kind : Nat
  text : List UInt8
  pos : Nat

/-- the token that begins a list of bytes: its kind, its text, how many bytes it takes -/
def tokenAt : List UInt8 → Option (Nat × List UInt8 × Nat)
  | [] => none
  | c :: r =>
    if c == 61 then some (3, [61], 1)
    else if c == 124 then some (4, [124], 1)
    else if c == 59 then some (5, [59], 1)
    else if c == 39 then
      if (r.takeWhile (fun x => !(x == 39))).length < r.length ∧ isTerm (r.takeWhile (fun x => !(x == 39))) = true then
        some (2, r.takeWhile (fun x => !(x == 39)), (r.takeWhile (fun x => !(x == 39))).length + 2)
      else none
    else if isName ((c :: r).takeWhile mr) = true then some (1, (c :: r).takeWhile mr, ((c :: r).takeWhile mr).length)
    else none

theorem tokenAt_len {l : List UInt8} {t : Nat × List UInt8 × Nat} (h : tokenAt l = some t) : 1 ≤ t.2.2 ∧ t.2.2 ≤ l.length := by
  cases l with
  | nil => simp [tokenAt] at h
  | cons c r =>
    have h1 := (List.takeWhile_sublist (l := r) (fun x => !(x == 39))).length_le
    have h2 := (List.takeWhile_sublist (l := c :: r) mr).length_le
    rw [tokenAt] at h
    by_cases b1 : (c == 61) = true
    · rw [if_pos b1] at h; cases h; simp
    rw [if_neg b1] at h
    by_cases b2 : (c == 124) = true
    · rw [if_pos b2] at h; cases h; simp
    rw [if_neg b2] at h
    by_cases b3 : (c == 59) = true
    · rw [if_pos b3] at h; cases h; simp
    rw [if_neg b3] at h
    by_cases b4 : (c == 39) = true
    · rw [if_pos b4] at h
      by_cases b5 : (r.takeWhile (fun x => !(x == 39))).length < r.length ∧ isTerm (r.takeWhile (fun x => !(x == 39))) = true
      · rw [if_pos b5] at h; cases h; simp only [List.length_cons]; omega
      · rw [if_neg b5] at h; cases h
    rw [if_neg b4] at h
    by_cases b6 : isName ((c :: r).takeWhile mr) = true
    · rw [if_pos b6] at h; cases h
      refine ⟨?_, h2⟩
      simp only [isName, Bool.and_eq_true, decide_eq_true_eq] at b6
      exact b6.1.1.1
    · rw [if_neg b6] at h; cases h

/-- all tokens of a list of bytes that begins with a token, or is empty; or the byte of the first one that is none -/
def run : Nat → List UInt8 → Nat → Except Nat (List Tok)
  | 0, _, _ => .ok []
  | _ + 1, [], _ => .ok []
  | f + 1, c :: r, p =>
    match tokenAt (c :: r) with
    | none => .error p
    | some t =>
      match run f (((c :: r).drop t.2.2).drop (gap false ((c :: r).drop t.2.2))) (p + t.2.2 + gap false ((c :: r).drop t.2.2)) with
      | .ok ts => .ok (⟨t.1, t.2.1, p⟩ :: ts)
      | .error q => .error q

/-- all tokens of a text, or the byte of the first one that is none -/
def tokens (l : List UInt8) : Except Nat (List Tok) := run (l.length + 1) (l.drop (gap false l)) (gap false l)

/-- tokens ahead of a result -/
def pre (ts : List Tok) : Except Nat (List Tok) → Except Nat (List Tok)
  | .ok us => .ok (ts ++ us)
  | .error q => .error q

theorem pre_nil (x : Except Nat (List Tok)) : pre [] x = x := by cases x <;> rfl
theorem run_none {f : Nat} {l : List UInt8} {p : Nat} (hl : l ≠ []) (h : tokenAt l = none) : run (f + 1) l p = .error p := by
  cases l with
  | nil => exact absurd rfl hl
  | cons c r => rw [run, h]
theorem run_some {f : Nat} {l : List UInt8} {p : Nat} {t : Nat × List UInt8 × Nat} (h : tokenAt l = some t) :
    run (f + 1) l p = pre [⟨t.1, t.2.1, p⟩] (run f ((l.drop t.2.2).drop (gap false (l.drop t.2.2))) (p + t.2.2 + gap false (l.drop t.2.2))) := by
  cases l with
  | nil => simp [tokenAt] at h
  | cons c r =>
    rw [run, h]
    simp only
    split <;> (rename_i h2; rw [h2]; rfl)
theorem pre_pre (a b : List Tok) (x : Except Nat (List Tok)) : pre a (pre b x) = pre (a ++ b) x := by
  cases x <;> simp [pre]

/-- a token's text is of its kind -/
def Good (k : Nat) (x : List UInt8) : Prop := (k = 1 ∧ isName x = true) ∨ (k = 2 ∧ isTerm x = true) ∨ (k = 3 ∧ x = [61]) ∨ (k = 4 ∧ x = [124]) ∨ (k = 5 ∧ x = [59])

theorem tokenAt_good {l : List UInt8} {t : Nat × List UInt8 × Nat} (h : tokenAt l = some t) : Good t.1 t.2.1 := by
  cases l with
  | nil => simp [tokenAt] at h
  | cons c r =>
    rw [tokenAt] at h
    by_cases b1 : (c == 61) = true
    · rw [if_pos b1] at h; cases h; exact .inr (.inr (.inl ⟨rfl, rfl⟩))
    rw [if_neg b1] at h
    by_cases b2 : (c == 124) = true
    · rw [if_pos b2] at h; cases h; exact .inr (.inr (.inr (.inl ⟨rfl, rfl⟩)))
    rw [if_neg b2] at h
    by_cases b3 : (c == 59) = true
    · rw [if_pos b3] at h; cases h; exact .inr (.inr (.inr (.inr ⟨rfl, rfl⟩)))
    rw [if_neg b3] at h
    by_cases b4 : (c == 39) = true
    · rw [if_pos b4] at h
      by_cases b5 : (r.takeWhile (fun x => !(x == 39))).length < r.length ∧ isTerm (r.takeWhile (fun x => !(x == 39))) = true
      · rw [if_pos b5] at h; cases h; exact .inr (.inl ⟨rfl, b5.2⟩)
      · rw [if_neg b5] at h; cases h
    rw [if_neg b4] at h
    by_cases b6 : isName ((c :: r).takeWhile mr) = true
    · rw [if_pos b6] at h; cases h; exact .inl ⟨rfl, b6⟩
    · rw [if_neg b6] at h; cases h

theorem run_cases {f : Nat} {l : List UInt8} {p : Nat} {ts : List Tok} (h : run f l p = .ok ts) :
    ts = [] ∨ ∃ g t us, f = g + 1 ∧ tokenAt l = some t ∧ ts = ⟨t.1, t.2.1, p⟩ :: us ∧ run g ((l.drop t.2.2).drop (gap false (l.drop t.2.2))) (p + t.2.2 + gap false (l.drop t.2.2)) = .ok us := by
  cases f with
  | zero => rw [run] at h; cases h; exact .inl rfl
  | succ g =>
    cases l with
    | nil => rw [run] at h; cases h; exact .inl rfl
    | cons c r =>
      cases ht : tokenAt (c :: r) with
      | none => rw [run_none (by simp) ht] at h; cases h
      | some t =>
        rw [run_some ht] at h
        cases hr : run g (((c :: r).drop t.2.2).drop (gap false ((c :: r).drop t.2.2))) (p + t.2.2 + gap false ((c :: r).drop t.2.2)) with
        | error q => rw [hr] at h; cases h
        | ok us => rw [hr] at h; cases h; exact .inr ⟨g, t, us, rfl, rfl, rfl, hr⟩

theorem run_good : ∀ (f : Nat) (l : List UInt8) (p : Nat) (ts : List Tok), run f l p = .ok ts → ∀ t ∈ ts, Good t.kind t.text
  | 0, l, p, ts, h => by
    rcases run_cases h with rfl | ⟨g, t, us, hf, _⟩
    · simp
    · omega
  | f + 1, l, p, ts, h => by
    rcases run_cases h with rfl | ⟨g, t, us, hf, ht, rfl, hr⟩
    · simp
    · obtain rfl : f = g := by omega
      intro x hx
      rcases List.mem_cons.1 hx with rfl | hx
      · exact tokenAt_good ht
      · exact run_good f _ _ us hr x hx

theorem tokens_good {l : List UInt8} {ts : List Tok} (h : tokens l = .ok ts) : ∀ t ∈ ts, Good t.kind t.text := run_good _ _ _ _ h

theorem run_count : ∀ (f : Nat) (l : List UInt8) (p : Nat) (ts : List Tok), run f l p = .ok ts → ts.length ≤ l.length
  | 0, l, p, ts, h => by
    rcases run_cases h with rfl | ⟨g, t, us, hf, _⟩
    · simp
    · omega
  | f + 1, l, p, ts, h => by
    rcases run_cases h with rfl | ⟨g, t, us, hf, ht, rfl, hr⟩
    · simp
    · obtain rfl : f = g := by omega
      have h1 := run_count f _ _ us hr
      have h2 := tokenAt_len ht
      simp only [List.length_drop, List.length_cons] at h1 ⊢
      omega

theorem tokens_count {l : List UInt8} {ts : List Tok} (h : tokens l = .ok ts) : ts.length ≤ l.length := by
  have := run_count _ _ _ _ h
  simp only [List.length_drop] at this
  omega

end Go.Proofs.Ytdocbgfpnaiijaa.Lx
