/-
  Plain facts behind LexNotes: a gap more ahead of a token moves it and all behind it on, and changes nothing else.
-/
import Derived.Test.YtpeleedpbdnhmaaLexRunMath
namespace Go.Proofs.Ytpeleedpbdnhmaa.Lx

theorem st_append : ∀ (b : Bool) (u v : List UInt8), st b (u ++ v) = (st b u).bind (fun b' => st b' v)
  | b, [], v => by cases b <;> rfl
  | false, c :: r, v => by
    rw [List.cons_append, st, st]
    by_cases h1 : (c == 32 || c == 9 || c == 10) = true
    · rw [if_pos h1, if_pos h1]; exact st_append false r v
    · rw [if_neg h1, if_neg h1]
      by_cases h2 : (c == 35) = true
      · rw [if_pos h2, if_pos h2]; exact st_append true r v
      · rw [if_neg h2, if_neg h2]; rfl
  | true, c :: r, v => by
    rw [List.cons_append, st, st]
    by_cases h1 : (c == 10) = true
    · rw [if_pos h1, if_pos h1]; exact st_append false r v
    · rw [if_neg h1, if_neg h1]; exact st_append true r v

theorem st_closed {u v : List UInt8} (hu : st false u = some false) (hv : st false v = some false) : st false (u ++ v) = some false := by
  rw [st_append, hu]; exact hv

/-- what begins a gap may not stand in a name -/
theorem st_head {c : UInt8} {r : List UInt8} (h : st false (c :: r) = some false) : mr c = false := by
  rw [st] at h
  by_cases h1 : (c == 32 || c == 9 || c == 10) = true
  · simp only [Bool.or_eq_true, beq_iff_eq] at h1
    rcases h1 with (rfl | rfl) | rfl <;> decide
  · rw [if_neg h1] at h
    by_cases h2 : (c == 35) = true
    · have : c = 35 := by simpa using h2
      subst this; decide
    · rw [if_neg h2] at h; cases h

theorem all_takeWhile (p : UInt8 → Bool) : ∀ l : List UInt8, (l.takeWhile p).all p = true
  | [] => rfl
  | c :: r => by
    cases hc : p c
    · rw [List.takeWhile_cons_of_neg (by simp [hc])]; rfl
    · rw [List.takeWhile_cons_of_pos hc, List.all_cons, hc, all_takeWhile p r]; rfl

theorem takeWhile_head {p : UInt8 → Bool} {u z : List UInt8} (h : (u ++ z).takeWhile p = u) : ∀ c, z.head? = some c → p c = false := by
  intro c hc
  cases z with
  | nil => simp at hc
  | cons d r =>
    simp at hc
    subst hc
    cases hp : p d
    · rfl
    · exfalso
      have hall : u.all p = true := by
        rw [← h]; exact all_takeWhile p _
      have := congrArg List.length h
      rw [List.takeWhile_append_of_pos (by simpa using hall), List.takeWhile_cons_of_pos hp] at this
      simp at this

theorem takeWhile_of_head {p : UInt8 → Bool} {u z : List UInt8} (hu : u.all p = true) (hz : ∀ c, z.head? = some c → p c = false) : (u ++ z).takeWhile p = u := by
  rw [List.takeWhile_append_of_pos (by simpa using hu)]
  cases z with
  | nil => simp
  | cons d r => rw [List.takeWhile_cons_of_neg (by simp [hz d rfl])]; simp

/-- a token hangs on its own bytes, and on what it stops at -/
theorem tokenAt_swap {u z z' : List UInt8} {t : Nat × List UInt8 × Nat} (h : tokenAt (u ++ z) = some t) (hn : t.2.2 = u.length)
    (hz : (∀ c, z'.head? = some c → mr c = false) ∨ z'.head? = z.head?) : tokenAt (u ++ z') = some t := by
  have hlen := tokenAt_len h
  cases u with
  | nil => simp at hn; omega
  | cons c r =>
    rw [List.cons_append] at h ⊢
    by_cases b4 : (c == 39) = true
    · have e : c = 39 := by simpa using b4
      subst e
      rw [tokenAt_quote] at h ⊢
      by_cases hc : ((r ++ z).takeWhile (fun x => !(x == 39))).length < (r ++ z).length ∧ isTerm ((r ++ z).takeWhile (fun x => !(x == 39))) = true
      · rw [if_pos hc] at h
        cases h
        simp only [List.length_cons] at hn
        -- the closing quote lies within r
        have hin : (r.takeWhile (fun x => !(x == 39))).length < r.length := by
          apply Decidable.byContradiction
          intro hh
          have hle := (List.takeWhile_sublist (l := r) (fun x => !(x == 39))).length_le
          rw [takeWhile_append_whole _ _ (by omega), List.length_append] at hn
          omega
        rw [takeWhile_append_in _ _ hin] at hc ⊢
        rw [takeWhile_append_in _ _ hin]
        rw [if_pos ⟨by rw [List.length_append]; omega, hc.2⟩]
      · rw [if_neg hc] at h; cases h
    · rw [tokenAt] at h ⊢
      by_cases b1 : (c == 61) = true
      · rw [if_pos b1] at h ⊢; exact h
      rw [if_neg b1] at h ⊢
      by_cases b2 : (c == 124) = true
      · rw [if_pos b2] at h ⊢; exact h
      rw [if_neg b2] at h ⊢
      by_cases b3 : (c == 59) = true
      · rw [if_pos b3] at h ⊢; exact h
      rw [if_neg b3, if_neg b4] at h ⊢
      rw [← List.cons_append] at h ⊢
      by_cases b6 : isName (((c :: r) ++ z).takeWhile mr) = true
      · rw [if_pos b6] at h
        cases h
        simp only at hn
        have hu : ((c :: r) ++ z).takeWhile mr = c :: r := by
          have h1 := tw_take mr ((c :: r) ++ z)
          rw [hn, List.take_left] at h1
          exact h1.symm
        have hall : (c :: r).all mr = true := by
          rw [← hu]; exact all_takeWhile mr _
        have hz' : ∀ d, z'.head? = some d → mr d = false := by
          rcases hz with hz | hz
          · exact hz
          · intro d hd
            exact takeWhile_head hu d (by rw [← hz]; exact hd)
        rw [hu] at b6 ⊢
        rw [takeWhile_of_head hall hz', if_pos b6]
      · rw [if_neg b6] at h; cases h

theorem scan_cons {f : Nat} {l : List UInt8} {p : Nat} {ts : List Tok} (h : scanF f l p = .ok ts) (hne : ts ≠ []) :
    ∃ g t us, f = g + 1 ∧ gap false l < l.length ∧ tokenAt (l.drop (gap false l)) = some t ∧ ts = ⟨t.1, t.2.1, p + gap false l⟩ :: us ∧ scanF g ((l.drop (gap false l)).drop t.2.2) (p + gap false l + t.2.2) = .ok us := by
  unfold scanF at h
  rcases run_cases h with rfl | ⟨g, t, us, hf, ht, rfl, hr⟩
  · exact absurd rfl hne
  · have h1 := tokenAt_len ht
    rw [List.length_drop] at h1
    exact ⟨g, t, us, hf, by omega, ht, rfl, hr⟩

theorem scan_pos_ge : ∀ (f : Nat) (l : List UInt8) (p : Nat) (ts : List Tok), scanF f l p = .ok ts → ∀ t ∈ ts, p ≤ t.pos
  | 0, l, p, ts, h => by
    by_cases hne : ts = []
    · subst hne; simp
    · obtain ⟨g, t, us, hf, _⟩ := scan_cons h hne
      omega
  | f + 1, l, p, ts, h => by
    by_cases hne : ts = []
    · subst hne; simp
    · obtain ⟨g, t, us, hf, _, ht, rfl, hr⟩ := scan_cons h hne
      obtain rfl : f = g := by omega
      intro x hx
      rcases List.mem_cons.1 hx with rfl | hx
      · show p ≤ p + gap false l; omega
      · have := scan_pos_ge f _ _ us hr x hx
        omega

/-- with a closed gap x ahead of token k -/
theorem scan_insert (x : List UInt8) (hx : st false x = some false) : ∀ (k f f' : Nat) (l : List UInt8) (p cut : Nat) (ts : List Tok), scanF f l p = .ok ts → l.length < f → l.length + x.length < f' →
    (hk : k < ts.length) → p + cut = ts[k].pos → cut ≤ l.length ∧ scanF f' (l.take cut ++ x ++ l.drop cut) p = .ok (ts.take k ++ (ts.drop k).map (shiftT x.length)) := by
  intro k
  induction k with
  | zero =>
    intro f f' l p cut ts h hf hf' hk hcut
    obtain ⟨g, t, us, hfg, hgl, ht, rfl, hr⟩ := scan_cons h (by intro e; subst e; simp at hk)
    simp only [List.getElem_cons_zero] at hcut
    obtain rfl : cut = gap false l := by omega
    refine ⟨by omega, ?_⟩
    obtain ⟨h1, c, r, h2, h3, h4⟩ := gap_stop false l hgl
    have e1 : gap false (l.take (gap false l) ++ x ++ l.drop (gap false l)) = gap false l + x.length := by
      rw [List.append_assoc, gap_append false false _ _ h1, gap_append false false _ _ hx, h2, gap_else h3 h4, List.length_take]
      omega
    have e2 : (l.take (gap false l) ++ x ++ l.drop (gap false l)).drop (gap false l + x.length) = l.drop (gap false l) := by
      have : gap false l + x.length = (l.take (gap false l) ++ x).length := by rw [List.length_append, List.length_take]; omega
      rw [this, List.drop_left]
    unfold scanF at h ⊢
    rw [e1, e2, show p + (gap false l + x.length) = p + gap false l + x.length from by omega, run_shift, run_fuel f' f _ _ (by rw [List.length_drop]; omega) (by rw [List.length_drop]; omega), h]
    rfl
  | succ k ih =>
    intro f f' l p cut ts h hf hf' hk hcut
    obtain ⟨g, t, us, hfg, hgl, ht, rfl, hr⟩ := scan_cons h (by intro e; subst e; simp at hk)
    subst hfg
    simp only [List.length_cons, Nat.add_lt_add_iff_right] at hk
    simp only [List.getElem_cons_succ] at hcut
    obtain ⟨t1, t2⟩ := tokenAt_len ht
    rw [List.length_drop] at t2
    have hge := scan_pos_ge _ _ _ _ hr us[k] (List.getElem_mem hk)
    obtain ⟨cut2, hc2⟩ : ∃ q, us[k].pos = p + gap false l + t.2.2 + q := ⟨us[k].pos - (p + gap false l + t.2.2), by omega⟩
    obtain ⟨f', rfl⟩ : ∃ q, f' = q + 1 := ⟨f' - 1, by omega⟩
    obtain ⟨i1, i2⟩ := ih g f' ((l.drop (gap false l)).drop t.2.2) (p + gap false l + t.2.2) cut2 us hr (by rw [List.length_drop, List.length_drop]; omega) (by rw [List.length_drop, List.length_drop]; omega) hk hc2.symm
    rw [List.length_drop, List.length_drop] at i1
    obtain rfl : cut = gap false l + t.2.2 + cut2 := by omega
    refine ⟨by omega, ?_⟩
    obtain ⟨h1, c, r, h2, h3, h4⟩ := gap_stop false l hgl
    obtain ⟨Z, hZ⟩ : ∃ Z, Z = ((l.drop (gap false l)).drop t.2.2).take cut2 ++ x ++ ((l.drop (gap false l)).drop t.2.2).drop cut2 := ⟨_, rfl⟩
    obtain ⟨u, hu⟩ : ∃ u, u = (l.drop (gap false l)).take t.2.2 := ⟨_, rfl⟩
    have hul : u.length = t.2.2 := by rw [hu, List.length_take, List.length_drop]; omega
    have hsplit : l.drop (gap false l) = u ++ (l.drop (gap false l)).drop t.2.2 := by rw [hu, List.take_append_drop]
    have eL : l.take (gap false l + t.2.2 + cut2) ++ x ++ l.drop (gap false l + t.2.2 + cut2) = l.take (gap false l) ++ (u ++ Z) := by
      have a1 : l.take (gap false l + t.2.2 + cut2) = l.take (gap false l) ++ (u ++ ((l.drop (gap false l)).drop t.2.2).take cut2) := by
        rw [show gap false l + t.2.2 + cut2 = gap false l + (t.2.2 + cut2) from by omega, List.take_add, List.take_add, ← hu]
      have a2 : l.drop (gap false l + t.2.2 + cut2) = ((l.drop (gap false l)).drop t.2.2).drop cut2 := by rw [List.drop_drop, List.drop_drop]; congr 1; omega
      rw [a1, a2, hZ]; simp only [List.append_assoc]
    have hhead : ∃ v, u = c :: v := by
      cases hq : t.2.2 with
      | zero => omega
      | succ q => exact ⟨r.take q, by rw [hu, h2, hq, List.take_succ_cons]⟩
    obtain ⟨v, hv⟩ := hhead
    have eg : gap false (l.take (gap false l) ++ (u ++ Z)) = gap false l := by
      rw [gap_append false false _ _ h1, hv, List.cons_append, gap_else h3 h4, List.length_take]; omega
    have ed : (l.take (gap false l) ++ (u ++ Z)).drop (gap false l) = u ++ Z := by
      have : gap false l = (l.take (gap false l)).length := by rw [List.length_take]; omega
      conv => lhs; arg 1; rw [this]
      rw [List.drop_left]
    have ht' : tokenAt (u ++ Z) = some t := by
      refine tokenAt_swap (z := (l.drop (gap false l)).drop t.2.2) (by rw [← hsplit]; exact ht) hul.symm ?_
      rw [hZ]
      cases cut2 with
      | zero =>
        cases x with
        | nil => right; simp
        | cons d y => left; intro e he; simp at he; subst he; exact st_head hx
      | succ q =>
        right
        cases hm : (l.drop (gap false l)).drop t.2.2 with
        | nil =>
          have := congrArg List.length hm
          rw [List.length_drop, List.length_drop] at this
          simp at this
          omega
        | cons d y => simp
    have hne : u ++ Z ≠ [] := by rw [hv]; simp
    have key : scanF (f' + 1) (l.take (gap false l) ++ (u ++ Z)) p = pre [⟨t.1, t.2.1, p + gap false l⟩] (scanF f' Z (p + gap false l + t.2.2)) := by
      show run (f' + 1) ((l.take (gap false l) ++ (u ++ Z)).drop (gap false (l.take (gap false l) ++ (u ++ Z)))) _ = _
      rw [eg, ed, run_scan ht', ← hul, List.drop_left]
    rw [eL, key, hZ, i2]
    simp [pre]

theorem tokens_insert {l x : List UInt8} {ts : List Tok} (hx : st false x = some false) (h : tokens l = .ok ts) (k : Nat) (hk : k < ts.length) :
    ts[k].pos ≤ l.length ∧ tokens (l.take ts[k].pos ++ x ++ l.drop ts[k].pos) = .ok (ts.take k ++ (ts.drop k).map (shiftT x.length)) := by
  rw [tokens_scan] at h
  have := scan_insert x hx k (l.length + 1) (l.length + x.length + 1) l 0 ts[k].pos ts h (by omega) (by omega) hk (by omega)
  refine ⟨this.1, ?_⟩
  rw [tokens_scan]
  have hl : (l.take ts[k].pos ++ x ++ l.drop ts[k].pos).length + 1 = l.length + x.length + 1 := by
    rw [List.length_append, List.length_append, List.length_take, List.length_drop]; omega
  rw [hl]
  exact this.2

end Go.Proofs.Ytpeleedpbdnhmaa.Lx
