/-
  Plain facts on the tokens of a list of bytes: what is moved on, what stands behind, more fuel.
-/
import Derived.Test.YtimjopaedfefmaaLexLib
namespace Go.Proofs.Ytimjopaedfefmaa.Lx

/-- the tokens from a byte on, gaps first -/
def scanF (f : Nat) (l : List UInt8) (p : Nat) : Except Nat (List Tok) := run f (l.drop (gap false l)) (p + gap false l)

theorem tokens_scan (l : List UInt8) : tokens l = scanF (l.length + 1) l 0 := by rw [tokens, scanF, Nat.zero_add]

theorem run_nil (f p : Nat) : run f [] p = .ok [] := by cases f <;> rfl

theorem run_scan {f : Nat} {l : List UInt8} {p : Nat} {t : Nat × List UInt8 × Nat} (h : tokenAt l = some t) :
    run (f + 1) l p = pre [⟨t.1, t.2.1, p⟩] (scanF f (l.drop t.2.2) (p + t.2.2)) := run_some h

/-- moved on by d -/
def shiftT (d : Nat) (t : Tok) : Tok := ⟨t.kind, t.text, t.pos + d⟩
def shift (d : Nat) : Except Nat (List Tok) → Except Nat (List Tok)
  | .ok ts => .ok (ts.map (shiftT d))
  | .error q => .error (q + d)

theorem shift_pre (d : Nat) (ts : List Tok) (x : Except Nat (List Tok)) : shift d (pre ts x) = pre (ts.map (shiftT d)) (shift d x) := by
  cases x <;> simp [shift, pre]

theorem run_shift : ∀ (f : Nat) (l : List UInt8) (p d : Nat), run f l (p + d) = shift d (run f l p)
  | 0, l, p, d => rfl
  | f + 1, [], p, d => rfl
  | f + 1, c :: r, p, d => by
    cases ht : tokenAt (c :: r) with
    | none => rw [run_none (by simp) ht, run_none (by simp) ht]; rfl
    | some t =>
      rw [run_some ht, run_some ht, shift_pre, ← run_shift f]
      have e : p + d + t.2.2 + gap false ((c :: r).drop t.2.2) = p + t.2.2 + gap false ((c :: r).drop t.2.2) + d := by omega
      rw [e]; rfl

theorem scanF_shift (f : Nat) (l : List UInt8) (p d : Nat) : scanF f l (p + d) = shift d (scanF f l p) := by
  unfold scanF
  have e : p + d + gap false l = p + gap false l + d := by omega
  rw [e, run_shift]

theorem run_fuel : ∀ (f g : Nat) (l : List UInt8) (p : Nat), l.length < f → l.length < g → run f l p = run g l p
  | 0, g, l, p, hf, hg => by omega
  | f + 1, 0, l, p, hf, hg => by omega
  | f + 1, g + 1, [], p, hf, hg => rfl
  | f + 1, g + 1, c :: r, p, hf, hg => by
    cases ht : tokenAt (c :: r) with
    | none => rw [run_none (by simp) ht, run_none (by simp) ht]
    | some t =>
      obtain ⟨h1, h2⟩ := tokenAt_len ht
      rw [run_some ht, run_some ht, run_fuel f g]
      · rw [List.length_drop, List.length_drop]; omega
      · rw [List.length_drop, List.length_drop]; omega

theorem scanF_fuel (f g : Nat) (l : List UInt8) (p : Nat) (hf : l.length < f) (hg : l.length < g) : scanF f l p = scanF g l p := by
  unfold scanF
  exact run_fuel f g _ _ (by rw [List.length_drop]; omega) (by rw [List.length_drop]; omega)

/-- where a gap has come to behind a list of bytes: within a note or not; 'none': there is a byte that is none of a gap's -/
def st : Bool → List UInt8 → Option Bool
  | b, [] => some b
  | false, c :: r => if c == 32 || c == 9 || c == 10 then st false r else if c == 35 then st true r else none
  | true, c :: r => if c == 10 then st false r else st true r

theorem gap_append : ∀ (b b' : Bool) (u v : List UInt8), st b u = some b' → gap b (u ++ v) = u.length + gap b' v
  | b, b', [], v, h => by cases b <;> (simp [st] at h; subst h; simp)
  | false, b', c :: r, v, h => by
    rw [st] at h
    rw [List.cons_append, gap]
    by_cases h1 : (c == 32 || c == 9 || c == 10) = true
    · rw [if_pos h1] at h ⊢
      rw [gap_append false b' r v h, List.length_cons]; omega
    · rw [if_neg h1] at h ⊢
      by_cases h2 : (c == 35) = true
      · rw [if_pos h2] at h ⊢
        rw [gap_append true b' r v h, List.length_cons]; omega
      · rw [if_neg h2] at h; cases h
  | true, b', c :: r, v, h => by
    rw [st] at h
    rw [List.cons_append, gap]
    by_cases h1 : (c == 10) = true
    · rw [if_pos h1] at h ⊢
      rw [gap_append false b' r v h, List.length_cons]; omega
    · rw [if_neg h1] at h ⊢
      rw [gap_append true b' r v h, List.length_cons]; omega

/-- a gap that ends within the list: it has come to its end outside a note, at a byte that is none of a gap's -/
theorem gap_stop : ∀ (b : Bool) (l : List UInt8), gap b l < l.length → st b (l.take (gap b l)) = some false ∧ ∃ c r, l.drop (gap b l) = c :: r ∧ (c == 32 || c == 9 || c == 10) = false ∧ (c == 35) = false
  | b, [], h => by simp at h
  | false, c :: r, h => by
    by_cases h1 : (c == 32 || c == 9 || c == 10) = true
    · have e : gap false (c :: r) = gap false r + 1 := by rw [gap_blank h1]; omega
      rw [e] at h ⊢
      obtain ⟨h3, h4⟩ := gap_stop false r (by simpa using h)
      exact ⟨by rw [List.take_succ_cons, st, if_pos h1]; exact h3, by rw [List.drop_succ_cons]; exact h4⟩
    · by_cases h2 : (c == 35) = true
      · have e : gap false (c :: r) = gap true r + 1 := by rw [gap, if_neg h1, if_pos h2]; omega
        rw [e] at h ⊢
        obtain ⟨h3, h4⟩ := gap_stop true r (by simpa using h)
        exact ⟨by rw [List.take_succ_cons, st, if_neg h1, if_pos h2]; exact h3, by rw [List.drop_succ_cons]; exact h4⟩
      · have e : gap false (c :: r) = 0 := gap_else (by simpa using h1) (by simpa using h2)
        rw [e]
        exact ⟨rfl, c, r, rfl, by simpa using h1, by simpa using h2⟩
  | true, c :: r, h => by
    by_cases h1 : (c == 10) = true
    · have e : gap true (c :: r) = gap false r + 1 := by rw [gap, if_pos h1]; omega
      rw [e] at h ⊢
      obtain ⟨h3, h4⟩ := gap_stop false r (by simpa using h)
      exact ⟨by rw [List.take_succ_cons, st, if_pos h1]; exact h3, by rw [List.drop_succ_cons]; exact h4⟩
    · have e : gap true (c :: r) = gap true r + 1 := by rw [gap, if_neg h1]; omega
      rw [e] at h ⊢
      obtain ⟨h3, h4⟩ := gap_stop true r (by simpa using h)
      exact ⟨by rw [List.take_succ_cons, st, if_neg h1]; exact h3, by rw [List.drop_succ_cons]; exact h4⟩

/-- a gap that is all of the list -/
theorem gap_whole : ∀ (b : Bool) (l : List UInt8), gap b l = l.length → ∃ b', st b l = some b'
  | b, [], h => ⟨b, by cases b <;> rfl⟩
  | false, c :: r, h => by
    by_cases h1 : (c == 32 || c == 9 || c == 10) = true
    · rw [gap_blank h1, List.length_cons] at h
      rw [st, if_pos h1]; exact gap_whole false r (by omega)
    · by_cases h2 : (c == 35) = true
      · rw [gap, if_neg h1, if_pos h2, List.length_cons] at h
        rw [st, if_neg h1, if_pos h2]; exact gap_whole true r (by omega)
      · rw [gap_else (by simpa using h1) (by simpa using h2)] at h; simp at h
  | true, c :: r, h => by
    by_cases h1 : (c == 10) = true
    · rw [gap, if_pos h1, List.length_cons] at h
      rw [st, if_pos h1]; exact gap_whole false r (by omega)
    · rw [gap, if_neg h1, List.length_cons] at h
      rw [st, if_neg h1]; exact gap_whole true r (by omega)

theorem takeWhile_append_stop {p : UInt8 → Bool} {x : UInt8} (hx : p x = false) (y : List UInt8) : ∀ l : List UInt8, (l ++ x :: y).takeWhile p = l.takeWhile p
  | [] => by rw [List.nil_append, List.takeWhile_cons_of_neg (by simp [hx])]; rfl
  | c :: r => by
    cases hc : p c
    · rw [List.cons_append, List.takeWhile_cons_of_neg (by simp [hc]), List.takeWhile_cons_of_neg (by simp [hc])]
    · rw [List.cons_append, List.takeWhile_cons_of_pos hc, List.takeWhile_cons_of_pos hc, takeWhile_append_stop hx y r]

theorem takeWhile_append_in {p : UInt8 → Bool} (y : List UInt8) : ∀ l : List UInt8, (l.takeWhile p).length < l.length → (l ++ y).takeWhile p = l.takeWhile p
  | [], h => by simp at h
  | c :: r, h => by
    cases hc : p c
    · rw [List.cons_append, List.takeWhile_cons_of_neg (by simp [hc]), List.takeWhile_cons_of_neg (by simp [hc])]
    · rw [List.takeWhile_cons_of_pos hc] at h
      rw [List.cons_append, List.takeWhile_cons_of_pos hc, List.takeWhile_cons_of_pos hc, takeWhile_append_in y r (by simpa using h)]

theorem takeWhile_append_whole {p : UInt8 → Bool} (y : List UInt8) : ∀ l : List UInt8, (l.takeWhile p).length = l.length → (l ++ y).takeWhile p = l ++ y.takeWhile p
  | [], h => rfl
  | c :: r, h => by
    cases hc : p c
    · rw [List.takeWhile_cons_of_neg (by simp [hc])] at h; simp at h
    · rw [List.takeWhile_cons_of_pos hc] at h
      rw [List.cons_append, List.takeWhile_cons_of_pos hc, takeWhile_append_whole y r (by simpa using h), List.cons_append]

theorem tokenAt_quote (r : List UInt8) : tokenAt (39 :: r) =
    if (r.takeWhile (fun x => !(x == 39))).length < r.length ∧ isTerm (r.takeWhile (fun x => !(x == 39))) = true then
      some (2, r.takeWhile (fun x => !(x == 39)), (r.takeWhile (fun x => !(x == 39))).length + 2) else none := by
  rw [tokenAt, if_neg (by decide), if_neg (by decide), if_neg (by decide), if_pos (by decide)]

/-- with a newline behind it a token is the same; what is none is none -/
theorem tokenAt_newline (m : List UInt8) {l : List UInt8} (hl : l ≠ []) : tokenAt (l ++ 10 :: m) = tokenAt l := by
  cases l with
  | nil => exact absurd rfl hl
  | cons c r =>
    have hn : ((c :: r) ++ 10 :: m).takeWhile mr = (c :: r).takeWhile mr := takeWhile_append_stop (by decide) m _
    rw [List.cons_append] at hn ⊢
    by_cases b4 : (c == 39) = true
    · have e : c = 39 := by simpa using b4
      subst e
      rw [tokenAt_quote, tokenAt_quote]
      by_cases hlt : (r.takeWhile (fun x => !(x == 39))).length < r.length
      · rw [takeWhile_append_in _ _ hlt]
        by_cases ht : isTerm (r.takeWhile (fun x => !(x == 39))) = true
        · rw [if_pos ⟨by rw [List.length_append]; omega, ht⟩, if_pos ⟨hlt, ht⟩]
        · rw [if_neg (fun h => ht h.2), if_neg (fun h => ht h.2)]
      · have hle := (List.takeWhile_sublist (l := r) (fun x => !(x == 39))).length_le
        rw [if_neg (fun h : _ ∧ _ => hlt h.1)]
        apply if_neg
        rintro ⟨_, h⟩
        rw [takeWhile_append_whole _ _ (by omega), List.takeWhile_cons_of_pos (by decide)] at h
        simp only [isTerm, List.all_append, List.all_cons, Bool.and_eq_true] at h
        exact absurd h.2.2.1 (by decide)
    · rw [tokenAt, tokenAt, hn, if_neg b4, if_neg b4]

theorem scanF_newline (m : List UInt8) : ∀ (n f f' g : Nat) (l : List UInt8) (p : Nat), l.length ≤ n → l.length < f → (l ++ 10 :: m).length < f' → m.length < g →
    scanF f' (l ++ 10 :: m) p = match scanF f l p with | .ok ts => pre ts (scanF g m (p + l.length + 1)) | .error q => .error q := by
  intro n
  induction n with
  | zero =>
    intro f f' g l p hn hf hf' hg
    cases l with
    | cons c r => simp at hn
    | nil =>
      have e : scanF f [] p = .ok [] := by simp [scanF, run_nil]
      rw [e]
      show _ = pre [] _
      rw [pre_nil]
      have e2 : gap false ([] ++ 10 :: m) = 1 + gap false m := gap_blank (by decide)
      simp only [List.nil_append, List.length_cons] at hf' e2
      have e3 : scanF f' (10 :: m) p = scanF f' m (p + 1) := by
        unfold scanF; rw [e2, Nat.add_comm 1, List.drop_succ_cons]; congr 1; omega
      rw [List.nil_append, e3, scanF_fuel f' g m _ (by omega) hg]; rfl
  | succ n ih =>
    intro f f' g l p hn hf hf' hg
    have hle := gap_le false l
    by_cases hw : gap false l = l.length
    · obtain ⟨b', hb'⟩ := gap_whole false l hw
      have e : scanF f l p = .ok [] := by unfold scanF; rw [hw, List.drop_length, run_nil]
      rw [e]
      show _ = pre [] _
      rw [pre_nil]
      have e1 : gap b' (10 :: m) = 1 + gap false m := by
        cases b'
        · exact gap_blank (by decide)
        · rw [gap, if_pos (by decide)]
      have e2 : gap false (l ++ 10 :: m) = l.length + (1 + gap false m) := by rw [gap_append false b' l _ hb', e1]
      have e3 : scanF f' (l ++ 10 :: m) p = scanF f' m (p + l.length + 1) := by
        unfold scanF
        rw [e2, List.drop_append, List.drop_of_length_le (by omega), List.nil_append, show l.length + (1 + gap false m) - l.length = gap false m + 1 from by omega, List.drop_succ_cons]
        congr 1; omega
      rw [List.length_append, List.length_cons] at hf'
      rw [e3, scanF_fuel f' g m _ (by omega) hg]
    · have hlt : gap false l < l.length := by omega
      obtain ⟨h1, c, r, h2, h3, h4⟩ := gap_stop false l hlt
      have hgl : gap false (l ++ 10 :: m) = gap false l := by
        have e : l ++ 10 :: m = l.take (gap false l) ++ (c :: (r ++ 10 :: m)) := by
          rw [← List.cons_append, ← h2, ← List.append_assoc, List.take_append_drop]
        rw [e, gap_append false false _ _ h1, gap_else h3 h4, List.length_take]
        omega
      have hd : (l ++ 10 :: m).drop (gap false l) = l.drop (gap false l) ++ 10 :: m := by
        rw [List.drop_append, show gap false l - l.length = 0 from by omega, List.drop_zero]
      obtain ⟨f, rfl⟩ : ∃ k, f = k + 1 := ⟨f - 1, by omega⟩
      obtain ⟨f', rfl⟩ : ∃ k, f' = k + 1 := ⟨f' - 1, by omega⟩
      have hne : l.drop (gap false l) ≠ [] := by rw [h2]; simp
      have htk := tokenAt_newline m hne
      have hne2 : l.drop (gap false l) ++ 10 :: m ≠ [] := by simp
      have eL : scanF (f' + 1) (l ++ 10 :: m) p = run (f' + 1) (l.drop (gap false l) ++ 10 :: m) (p + gap false l) := by unfold scanF; rw [hgl, hd]
      have eR : scanF (f + 1) l p = run (f + 1) (l.drop (gap false l)) (p + gap false l) := rfl
      rw [eL, eR]
      cases ht : tokenAt (l.drop (gap false l)) with
      | none => rw [run_none hne ht, run_none hne2 (by rw [htk]; exact ht)]
      | some t =>
        obtain ⟨k1, k2⟩ := tokenAt_len ht
        rw [List.length_drop] at k2
        rw [run_scan ht, run_scan (by rw [htk]; exact ht), List.drop_append, show t.2.2 - (l.drop (gap false l)).length = 0 from by rw [List.length_drop]; omega, List.drop_zero]
        rw [List.length_append, List.length_cons] at hf'
        have := ih f f' g ((l.drop (gap false l)).drop t.2.2) (p + gap false l + t.2.2) (by rw [List.length_drop, List.length_drop]; omega) (by rw [List.length_drop, List.length_drop]; omega)
          (by rw [List.length_append, List.length_drop, List.length_drop, List.length_cons]; omega) hg
        rw [this]
        have e4 : p + gap false l + t.2.2 + ((l.drop (gap false l)).drop t.2.2).length + 1 = p + l.length + 1 := by rw [List.length_drop, List.length_drop]; omega
        rw [e4]
        cases scanF f ((l.drop (gap false l)).drop t.2.2) (p + gap false l + t.2.2) with
        | error q => rfl
        | ok ts => show pre _ (pre _ _) = pre _ _; rw [pre_pre]

theorem tokens_newline (l m : List UInt8) :
    tokens (l ++ 10 :: m) = match tokens l with | .ok ts => pre ts (shift (l.length + 1) (tokens m)) | .error q => .error q := by
  rw [tokens_scan, tokens_scan, tokens_scan, scanF_newline m l.length (l.length + 1) _ (m.length + 1) l 0 (Nat.le_refl _) (by omega) (by omega) (by omega)]
  have e : 0 + l.length + 1 = 0 + (l.length + 1) := by omega
  rw [e, scanF_shift]

theorem run_pos : ∀ (f : Nat) (l : List UInt8) (p : Nat) (ts : List Tok), run f l p = .ok ts → ∀ t ∈ ts, t.pos < p + l.length
  | 0, l, p, ts, h => by
    rcases run_cases h with rfl | ⟨g, t, us, hf, _⟩
    · simp
    · omega
  | f + 1, l, p, ts, h => by
    rcases run_cases h with rfl | ⟨g, t, us, hf, ht, rfl, hr⟩
    · simp
    · obtain rfl : f = g := by omega
      intro x hx
      obtain ⟨h1, h2⟩ := tokenAt_len ht
      rcases List.mem_cons.1 hx with rfl | hx
      · show p < _; omega
      · have := run_pos f _ _ us hr x hx
        have h3 := gap_le false (l.drop t.2.2)
        simp only [List.length_drop] at this h3
        omega

theorem tokens_pos {l : List UInt8} {ts : List Tok} (h : tokens l = .ok ts) : ∀ t ∈ ts, t.pos < l.length := by
  intro t ht
  have := run_pos _ _ _ _ h t ht
  have h3 := gap_le false l
  rw [List.length_drop] at this
  omega

end Go.Proofs.Ytimjopaedfefmaa.Lx
