/-
  The plain mathematics of layer 2 (read): the alternatives of tokens, as a machine that goes on token by token. Nothing of the program is imported here.
  The plain mathematics of layer 2 (read): what follows for rows of tokens, one behind the other, cut, counted, built.
-/

namespace Go.Proofs.Ytdocbgfpnaiijaa.Rd

/-- a token: its kind, its text, where it begins -/
structure Tk where
  kind : Int
  text : ByteArray
  pos : Int

/-- an alternative: its left side, its right side -/
abbrev Al := Tk × List Tk

/-- what comes next: a definition; its sign; the right side of an alternative, of which some is there -/
inductive Md where
  | start
  | eq (l : Tk)
  | body (l : Tk) (a : List Tk)

structure St where
  acc : List Al
  md : Md

/-- an error's number, and where -/
abbrev Er := Int × Int

def step (s : St) (t : Tk) : Except Er St :=
  match s.md with
  | .start => if t.kind = 1 then .ok ⟨s.acc, .eq t⟩ else .error (12, t.pos)
  | .eq l => if t.kind = 3 then .ok ⟨s.acc, .body l []⟩ else .error (12, t.pos)
  | .body l a =>
    if t.kind = 1 ∨ t.kind = 2 then .ok ⟨s.acc, .body l (a ++ [t])⟩
    else if t.kind = 4 ∨ t.kind = 5 then
      if 60 ≤ s.acc.length ∨ 8 < a.length then .error (14, l.pos)
      else .ok ⟨s.acc ++ [(l, a)], if t.kind = 4 then .body l [] else .start⟩
    else .error (12, t.pos)

def run : St → List Tk → Except Er St
  | s, [] => .ok s
  | s, t :: r => match step s t with | .ok s' => run s' r | .error e => .error e

def fin (en : Int) (s : St) : Except Er (List Al) :=
  match s.md with
  | .start => if s.acc.length = 0 then .error (12, en) else .ok s.acc
  | _ => .error (12, en)

/-- what is left of the tokens, from a state on -/
def whole (en : Int) (s : St) (ts : List Tk) : Except Er (List Al) :=
  match run s ts with | .ok s' => fin en s' | .error e => .error e

/-- the alternatives of tokens, or the error -/
def alts (ts : List Tk) (en : Int) : Except Er (List Al) := whole en ⟨[], .start⟩ ts

/-- the error's number, where, the alternatives -/
def altsG (ts : List Tk) (en : Int) : Int × Int × List Al :=
  match alts ts en with | .ok l => (0, 0, l) | .error e => (e.1, e.2, [])

theorem whole_ok {en : Int} {s s' : St} {t : Tk} {r : List Tk} (h : step s t = .ok s') : whole en s (t :: r) = whole en s' r := by
  unfold whole; rw [run, h]
theorem whole_err {en : Int} {s : St} {t : Tk} {r : List Tk} {e : Er} (h : step s t = .error e) : whole en s (t :: r) = .error e := by
  unfold whole; rw [run, h]
theorem whole_nil {en : Int} {s : St} : whole en s [] = fin en s := rfl

theorem step_name {acc : List Al} {t : Tk} (h : t.kind = 1) : step ⟨acc, .start⟩ t = .ok ⟨acc, .eq t⟩ := by simp [step, h]
theorem step_noname {acc : List Al} {t : Tk} (h : ¬ t.kind = 1) : step ⟨acc, .start⟩ t = .error (12, t.pos) := by simp [step, h]
theorem step_is {acc : List Al} {l t : Tk} (h : t.kind = 3) : step ⟨acc, .eq l⟩ t = .ok ⟨acc, .body l []⟩ := by simp [step, h]
theorem step_nois {acc : List Al} {l t : Tk} (h : ¬ t.kind = 3) : step ⟨acc, .eq l⟩ t = .error (12, t.pos) := by simp [step, h]
theorem step_sym {acc : List Al} {l t : Tk} {a : List Tk} (h : t.kind = 1 ∨ t.kind = 2) : step ⟨acc, .body l a⟩ t = .ok ⟨acc, .body l (a ++ [t])⟩ := by
  simp only [step]; rw [if_pos h]
theorem step_other {acc : List Al} {l t : Tk} {a : List Tk} (h : ¬ (t.kind = 1 ∨ t.kind = 2)) (h2 : ¬ (t.kind = 4 ∨ t.kind = 5)) : step ⟨acc, .body l a⟩ t = .error (12, t.pos) := by
  simp only [step]; rw [if_neg h, if_neg h2]
theorem step_large {acc : List Al} {l t : Tk} {a : List Tk} (h2 : t.kind = 4 ∨ t.kind = 5) (h3 : 60 ≤ acc.length ∨ 8 < a.length) : step ⟨acc, .body l a⟩ t = .error (14, l.pos) := by
  simp only [step]; rw [if_neg (by omega), if_pos h2, if_pos h3]
theorem step_bar {acc : List Al} {l t : Tk} {a : List Tk} (h2 : t.kind = 4) (h3 : ¬ (60 ≤ acc.length ∨ 8 < a.length)) : step ⟨acc, .body l a⟩ t = .ok ⟨acc ++ [(l, a)], .body l []⟩ := by
  simp only [step]; rw [if_neg (by omega), if_pos (by omega), if_neg h3, if_pos h2]
theorem step_end {acc : List Al} {l t : Tk} {a : List Tk} (h2 : t.kind = 5) (h3 : ¬ (60 ≤ acc.length ∨ 8 < a.length)) : step ⟨acc, .body l a⟩ t = .ok ⟨acc ++ [(l, a)], .start⟩ := by
  simp only [step]; rw [if_neg (by omega), if_pos (by omega), if_neg h3, if_neg (by omega)]

theorem altsG_ok {ts : List Tk} {en : Int} {l : List Al} (h : alts ts en = .ok l) : altsG ts en = (0, 0, l) := by unfold altsG; rw [h]
theorem altsG_err {ts : List Tk} {en : Int} {e : Er} (h : alts ts en = .error e) : altsG ts en = (e.1, e.2, []) := by unfold altsG; rw [h]

theorem run_append : ∀ (s : St) (a b : List Tk), run s (a ++ b) = match run s a with | .ok s' => run s' b | .error e => .error e
  | s, [], b => by rw [List.nil_append, run]
  | s, t :: r, b => by
    rw [List.cons_append, run, run]
    cases h : step s t with
    | ok s' => simp only; exact run_append s' r b
    | error e => rfl

/-- a state has so many alternatives at most -/
theorem run_len {s s' : St} {ts : List Tk} (h : run s ts = .ok s') : s.acc.length ≤ s'.acc.length ∧ s'.acc.length ≤ s.acc.length + ts.length := by
  induction ts generalizing s with
  | nil => rw [run] at h; cases h; exact ⟨Nat.le_refl _, Nat.le_add_right _ _⟩
  | cons t r ih =>
    rw [run] at h
    cases hs : step s t with
    | error e => rw [hs] at h; cases h
    | ok s1 =>
      rw [hs] at h
      have h1 := ih h
      have h2 : s.acc.length ≤ s1.acc.length ∧ s1.acc.length ≤ s.acc.length + 1 := by
        obtain ⟨acc, md⟩ := s
        cases md with
        | start => by_cases k : t.kind = 1
                   · rw [step_name k] at hs; cases hs; simp
                   · rw [step_noname k] at hs; cases hs
        | eq l => by_cases k : t.kind = 3
                  · rw [step_is k] at hs; cases hs; simp
                  · rw [step_nois k] at hs; cases hs
        | body l a =>
          by_cases k : t.kind = 1 ∨ t.kind = 2
          · rw [step_sym k] at hs; cases hs; simp
          by_cases k2 : t.kind = 4 ∨ t.kind = 5
          · by_cases k3 : 60 ≤ acc.length ∨ 8 < a.length
            · rw [step_large k2 k3] at hs; cases hs
            · rcases k2 with k2 | k2
              · rw [step_bar k2 k3] at hs; cases hs; simp
              · rw [step_end k2 k3] at hs; cases hs; simp
          · rw [step_other k k2] at hs; cases hs
      rw [List.length_cons]
      omega
end Go.Proofs.Ytdocbgfpnaiijaa.Rd

namespace Go.Proofs.Ytdocbgfpnaiijaa.Rd

theorem step_ok {s s' : St} {t : Tk} (h : step s t = .ok s') :
    (s.md = .start ∧ t.kind = 1 ∧ s' = ⟨s.acc, .eq t⟩) ∨ (∃ l, s.md = .eq l ∧ t.kind = 3 ∧ s' = ⟨s.acc, .body l []⟩) ∨
    (∃ l a, s.md = .body l a ∧ (t.kind = 1 ∨ t.kind = 2) ∧ s' = ⟨s.acc, .body l (a ++ [t])⟩) ∨
    (∃ l a, s.md = .body l a ∧ t.kind = 4 ∧ s.acc.length < 60 ∧ a.length ≤ 8 ∧ s' = ⟨s.acc ++ [(l, a)], .body l []⟩) ∨
    (∃ l a, s.md = .body l a ∧ t.kind = 5 ∧ s.acc.length < 60 ∧ a.length ≤ 8 ∧ s' = ⟨s.acc ++ [(l, a)], .start⟩) := by
  obtain ⟨acc, md⟩ := s
  cases md with
  | start =>
    by_cases k : t.kind = 1
    · rw [step_name k] at h; cases h; exact .inl ⟨rfl, k, rfl⟩
    · rw [step_noname k] at h; cases h
  | eq l =>
    by_cases k : t.kind = 3
    · rw [step_is k] at h; cases h; exact .inr (.inl ⟨l, rfl, k, rfl⟩)
    · rw [step_nois k] at h; cases h
  | body l a =>
    by_cases k : t.kind = 1 ∨ t.kind = 2
    · rw [step_sym k] at h; cases h; exact .inr (.inr (.inl ⟨l, a, rfl, k, rfl⟩))
    by_cases k2 : t.kind = 4 ∨ t.kind = 5
    · by_cases k3 : 60 ≤ acc.length ∨ 8 < a.length
      · rw [step_large k2 k3] at h; cases h
      · rcases k2 with k2 | k2
        · rw [step_bar k2 k3] at h; cases h; exact .inr (.inr (.inr (.inl ⟨l, a, rfl, k2, by simp only; omega, by omega, rfl⟩)))
        · rw [step_end k2 k3] at h; cases h; exact .inr (.inr (.inr (.inr ⟨l, a, rfl, k2, by simp only; omega, by omega, rfl⟩)))
    · rw [step_other k k2] at h; cases h

theorem step_er {s : St} {t : Tk} {e : Er} (h : step s t = .error e) : e.1 = 12 ∨ e.1 = 14 := by
  obtain ⟨acc, md⟩ := s
  cases md with
  | start =>
    by_cases k : t.kind = 1
    · rw [step_name k] at h; cases h
    · rw [step_noname k] at h; cases h; exact .inl rfl
  | eq l =>
    by_cases k : t.kind = 3
    · rw [step_is k] at h; cases h
    · rw [step_nois k] at h; cases h; exact .inl rfl
  | body l a =>
    by_cases k : t.kind = 1 ∨ t.kind = 2
    · rw [step_sym k] at h; cases h
    by_cases k2 : t.kind = 4 ∨ t.kind = 5
    · by_cases k3 : 60 ≤ acc.length ∨ 8 < a.length
      · rw [step_large k2 k3] at h; cases h; exact .inr rfl
      · rcases k2 with k2 | k2
        · rw [step_bar k2 k3] at h; cases h
        · rw [step_end k2 k3] at h; cases h
    · rw [step_other k k2] at h; cases h; exact .inl rfl

theorem run_er {s : St} {ts : List Tk} {e : Er} (h : run s ts = .error e) : e.1 = 12 ∨ e.1 = 14 := by
  induction ts generalizing s with
  | nil => rw [run] at h; cases h
  | cons t r ih =>
    rw [run] at h
    cases hs : step s t with
    | ok s1 => rw [hs] at h; exact ih h
    | error e' => rw [hs] at h; cases h; exact step_er hs

theorem fin_cases (en : Int) (s : St) : (fin en s = .error (12, en) ∧ (s.md = .start → s.acc = [])) ∨ (fin en s = .ok s.acc ∧ s.md = .start ∧ s.acc ≠ []) := by
  obtain ⟨acc, md⟩ := s
  cases md with
  | start =>
    by_cases h : acc = []
    · exact .inl ⟨by simp [fin, h], fun _ => h⟩
    · exact .inr ⟨by simp [fin, h], rfl, h⟩
  | eq l => exact .inl ⟨rfl, fun h => by cases h⟩
  | body l a => exact .inl ⟨rfl, fun h => by cases h⟩

theorem whole_er {en : Int} {s : St} {ts : List Tk} {e : Er} (h : whole en s ts = .error e) : e.1 = 12 ∨ e.1 = 14 := by
  unfold whole at h
  cases hr : run s ts with
  | error e' => rw [hr] at h; cases h; exact run_er hr
  | ok s' =>
    rw [hr] at h
    simp only at h
    rcases fin_cases en s' with ⟨h1, _⟩ | ⟨h1, _⟩
    · rw [h1] at h; cases h; exact .inl rfl
    · rw [h1] at h; cases h

/-- what the three are: all good, or an error -/
theorem altsG_cases (ts : List Tk) (en : Int) : (∃ l, alts ts en = .ok l ∧ altsG ts en = (0, 0, l) ∧ run ⟨[], .start⟩ ts = .ok ⟨l, .start⟩ ∧ l ≠ []) ∨ (∃ e, alts ts en = .error e ∧ altsG ts en = (e.1, e.2, []) ∧ (e.1 = 12 ∨ e.1 = 14)) := by
  cases h : alts ts en with
  | error e => exact .inr ⟨e, rfl, altsG_err h, whole_er h⟩
  | ok l =>
    refine .inl ⟨l, rfl, altsG_ok h, ?_⟩
    unfold alts whole at h
    cases hr : run ⟨[], .start⟩ ts with
    | error e => rw [hr] at h; cases h
    | ok s' =>
      rw [hr] at h
      simp only at h
      rcases fin_cases en s' with ⟨h1, _⟩ | ⟨h1, h2, h3⟩
      · rw [h1] at h; cases h
      · rw [h1] at h; cases h
        refine ⟨?_, h3⟩
        obtain ⟨a, m⟩ := s'
        simp only at h2
        rw [h2]

theorem run_start {s s' : St} {ts : List Tk} (h : run s ts = .ok s') (hm : s'.md = .start) : ts = [] ∨ s.acc.length < s'.acc.length := by
  induction ts generalizing s with
  | nil => exact .inl rfl
  | cons t r ih =>
    right
    rw [run] at h
    cases hs : step s t with
    | error e => rw [hs] at h; cases h
    | ok s1 =>
      rw [hs] at h
      simp only at h
      have hle : s.acc.length ≤ s1.acc.length := by
        have := run_len (s := s) (s' := s1) (ts := [t]) (by rw [run, hs]; rfl)
        exact this.1
      rcases ih h with hr | hr
      · subst hr
        rw [run] at h; cases h
        rcases step_ok hs with ⟨_, _, rfl⟩ | ⟨l, _, _, rfl⟩ | ⟨l, a, _, _, rfl⟩ | ⟨l, a, _, _, _, _, rfl⟩ | ⟨l, a, _, _, _, _, rfl⟩
        · cases hm
        · cases hm
        · cases hm
        · cases hm
        · simp
      · omega

/-- the same tokens behind others -/
theorem run_shift (A : List Al) : ∀ (ts : List Tk) (s : St),
    (∀ s', run s ts = .ok s' → run ⟨A ++ s.acc, s.md⟩ ts = .ok ⟨A ++ s'.acc, s'.md⟩ ∨ ((∃ p, run ⟨A ++ s.acc, s.md⟩ ts = .error (14, p)) ∧ 60 < A.length + s'.acc.length)) ∧
    (∀ e, run s ts = .error e → run ⟨A ++ s.acc, s.md⟩ ts = .error e ∨ ∃ p, run ⟨A ++ s.acc, s.md⟩ ts = .error (14, p))
  | [], s => ⟨fun s' h => by rw [run] at h; cases h; exact .inl rfl, fun e h => by rw [run] at h; cases h⟩
  | t :: r, s => by
    obtain ⟨acc, md⟩ := s
    have key : (∃ e, step ⟨acc, md⟩ t = .error e ∧ step ⟨A ++ acc, md⟩ t = .error e) ∨ (∃ s1, step ⟨acc, md⟩ t = .ok s1 ∧ (step ⟨A ++ acc, md⟩ t = .ok ⟨A ++ s1.acc, s1.md⟩ ∨ ((∃ p, step ⟨A ++ acc, md⟩ t = .error (14, p)) ∧ 60 < A.length + s1.acc.length))) := by
      cases md with
      | start =>
        by_cases k : t.kind = 1
        · exact .inr ⟨_, step_name k, .inl (step_name k)⟩
        · exact .inl ⟨_, step_noname k, step_noname k⟩
      | eq l =>
        by_cases k : t.kind = 3
        · exact .inr ⟨_, step_is k, .inl (step_is k)⟩
        · exact .inl ⟨_, step_nois k, step_nois k⟩
      | body l a =>
        by_cases k : t.kind = 1 ∨ t.kind = 2
        · exact .inr ⟨_, step_sym k, .inl (step_sym k)⟩
        by_cases k2 : t.kind = 4 ∨ t.kind = 5
        · by_cases k3 : 60 ≤ acc.length ∨ 8 < a.length
          · exact .inl ⟨_, step_large k2 k3, step_large k2 (by rw [List.length_append]; omega)⟩
          · by_cases k4 : 60 ≤ (A ++ acc).length ∨ 8 < a.length
            · have k5 : 60 < A.length + (acc ++ [(l, a)]).length := by rw [List.length_append] at k4 ⊢; simp only [List.length_cons, List.length_nil]; omega
              rcases k2 with k2' | k2'
              · exact .inr ⟨_, step_bar k2' k3, .inr ⟨⟨_, step_large (.inl k2') k4⟩, k5⟩⟩
              · exact .inr ⟨_, step_end k2' k3, .inr ⟨⟨_, step_large (.inr k2') k4⟩, k5⟩⟩
            · rcases k2 with k2' | k2'
              · exact .inr ⟨_, step_bar k2' k3, .inl (by rw [step_bar k2' k4, List.append_assoc])⟩
              · exact .inr ⟨_, step_end k2' k3, .inl (by rw [step_end k2' k4, List.append_assoc])⟩
        · exact .inl ⟨_, step_other k k2, step_other k k2⟩
    rcases key with ⟨e0, h1, h2⟩ | ⟨s1, h1, h2⟩
    · refine ⟨fun s' h => ?_, fun e h => ?_⟩
      · rw [run, h1] at h; cases h
      · rw [run, h1] at h; cases h
        exact .inl (by rw [run, h2])
    · obtain ⟨ih1, ih2⟩ := run_shift A r s1
      rcases h2 with h2 | ⟨⟨p, h2⟩, h3⟩
      · refine ⟨fun s' h => ?_, fun e h => ?_⟩
        · rw [run, h1] at h
          have := ih1 s' h
          rw [run, h2]; exact this
        · rw [run, h1] at h
          have := ih2 e h
          rw [run, h2]; exact this
      · refine ⟨fun s' h => ?_, fun e _ => ?_⟩
        · rw [run, h1] at h
          have hlen := (run_len (show run s1 r = .ok s' from h)).1
          exact .inr ⟨⟨p, by rw [run, h2]⟩, by omega⟩
        · exact .inr ⟨p, by rw [run, h2]⟩

/-- definitions behind definitions -/
theorem alts_append {l m : List Tk} {en : Int} {a : List Al} (hl : run ⟨[], .start⟩ l = .ok ⟨a, .start⟩) (ha : a ≠ []) (hm : m ≠ []) :
    (∀ b, alts m en = .ok b → alts (l ++ m) en = .ok (a ++ b) ∨ ((∃ p, alts (l ++ m) en = .error (14, p)) ∧ 60 < a.length + b.length)) ∧
    (∀ e, alts m en = .error e → alts (l ++ m) en = .error e ∨ ∃ p, alts (l ++ m) en = .error (14, p)) := by
  have e0 : alts (l ++ m) en = whole en ⟨a ++ [], .start⟩ m := by
    unfold alts whole
    rw [run_append, hl, List.append_nil]
  have sh := run_shift a m ⟨[], .start⟩
  rw [e0]
  refine ⟨fun b h => ?_, fun e h => ?_⟩
  · rcases altsG_cases m en with ⟨b', h1, _, h2, h3⟩ | ⟨e, h1, _⟩
    · rw [h1] at h; cases h
      rcases sh.1 _ h2 with h4 | ⟨⟨p, h4⟩, h5⟩
      · left
        unfold whole
        rw [h4]
        simp [fin, ha]
      · exact .inr ⟨⟨p, by unfold whole; rw [h4]⟩, h5⟩
    · rw [h1] at h; cases h
  · unfold alts whole at h
    cases hr : run ⟨[], .start⟩ m with
    | error e' =>
      rw [hr] at h
      cases h
      rcases sh.2 _ hr with h4 | ⟨p, h4⟩
      · exact .inl (by unfold whole; rw [h4])
      · exact .inr ⟨p, by unfold whole; rw [h4]⟩
    | ok s' =>
      rw [hr] at h
      simp only at h
      rcases fin_cases en s' with ⟨h1, h2⟩ | ⟨h1, _⟩
      · rw [h1] at h; cases h
        rcases sh.1 _ hr with h4 | ⟨⟨p, h4⟩, _⟩
        · left
          unfold whole
          rw [h4]
          simp only
          obtain ⟨acc', md'⟩ := s'
          cases md' with
          | start =>
            exfalso
            have := h2 rfl
            rcases run_start hr rfl with hh | hh
            · exact hm hh
            · simp only at this hh; rw [this] at hh; simp at hh
          | eq l => rfl
          | body l a => rfl
        · exact .inr ⟨p, by unfold whole; rw [h4]⟩
      · rw [h1] at h; cases h

/-- a part of good tokens -/
theorem run_take {s s' : St} {ts : List Tk} (h : run s ts = .ok s') (k : Nat) : ∃ s1, run s (ts.take k) = .ok s1 ∧ run s1 (ts.drop k) = .ok s' := by
  rw [← List.take_append_drop k ts, run_append] at h
  cases hr : run s (ts.take k) with
  | error e => rw [hr] at h; cases h
  | ok s1 => rw [hr] at h; exact ⟨s1, rfl, h⟩

theorem run_last {s s' : St} {ts : List Tk} (h : run s ts = .ok s') (k : Nat) (hk : k < ts.length) : ∃ s1 s2, run s (ts.take k) = .ok s1 ∧ step s1 ts[k] = .ok s2 ∧ run s (ts.take (k + 1)) = .ok s2 := by
  obtain ⟨s1, h1, h2⟩ := run_take h k
  rw [List.drop_eq_getElem_cons hk, run] at h2
  cases hs : step s1 ts[k] with
  | error e => rw [hs] at h2; cases h2
  | ok s2 =>
    refine ⟨s1, s2, h1, hs, ?_⟩
    rw [List.take_add_one, List.getElem?_eq_getElem hk, run_append, h1]
    simp only [Option.toList_some]
    rw [run, hs]; rfl

/-- behind an end a definition begins -/
theorem run_at_end {s s' : St} {ts : List Tk} (h : run s ts = .ok s') (k : Nat) (hk : k < ts.length) (he : ts[k].kind = 5) : ∃ acc, run s (ts.take (k + 1)) = .ok ⟨acc, .start⟩ := by
  obtain ⟨s1, s2, _, hs, h2⟩ := run_last h k hk
  rcases step_ok hs with ⟨_, hq, _⟩ | ⟨l, _, hq, _⟩ | ⟨l, a, _, hq, _⟩ | ⟨l, a, _, hq, _⟩ | ⟨l, a, _, _, _, _, rfl⟩
  · omega
  · omega
  · omega
  · omega
  · exact ⟨_, h2⟩

/-- elsewhere none does -/
theorem run_at_else {s s' : St} {ts : List Tk} (h : run s ts = .ok s') (k : Nat) (hk : k < ts.length) (he : ts[k].kind ≠ 5) : ∃ s2, run s (ts.take (k + 1)) = .ok s2 ∧ s2.md ≠ .start := by
  obtain ⟨s1, s2, _, hs, h2⟩ := run_last h k hk
  refine ⟨s2, h2, ?_⟩
  rcases step_ok hs with ⟨_, hq, rfl⟩ | ⟨l, _, hq, rfl⟩ | ⟨l, a, _, hq, rfl⟩ | ⟨l, a, _, hq, _, _, rfl⟩ | ⟨l, a, _, hq, _⟩
  · intro h; cases h
  · intro h; cases h
  · intro h; cases h
  · intro h; cases h
  · exact absurd hq he

theorem alts_cut {ts : List Tk} {a : List Al} {en : Int} (h : run ⟨[], .start⟩ ts = .ok ⟨a, .start⟩) (k : Nat) (hk : k ≤ ts.length) :
    (∀ i (hi : i < ts.length), i + 1 = k → ts[i].kind = 5 → ∃ b, alts (ts.take k) en = .ok b ∧ b.length ≤ a.length) ∧
    ((∀ i (hi : i < ts.length), i + 1 = k → ts[i].kind ≠ 5) → alts (ts.take k) en = .error (12, en)) := by
  refine ⟨fun i hi hk' he => ?_, fun hn => ?_⟩
  · subst hk'
    obtain ⟨acc, hacc⟩ := run_at_end h i hi he
    obtain ⟨s1, h1, h2⟩ := run_take h (i + 1)
    rw [hacc] at h1; cases h1
    have hne : acc.length ≠ 0 := by
      rcases run_start hacc rfl with hh | hh
      · have := congrArg List.length hh
        rw [List.length_take, Nat.min_eq_left (by omega)] at this; cases this
      · simp at hh; omega
    exact ⟨acc, by unfold alts whole; rw [hacc]; simp only [fin]; rw [if_neg hne], (run_len h2).1⟩
  · cases k with
    | zero => rfl
    | succ i =>
      obtain ⟨s2, h2, h3⟩ := run_at_else h i (by omega) (hn i (by omega) rfl)
      unfold alts whole
      rw [h2]
      simp only
      rcases fin_cases en s2 with ⟨h4, _⟩ | ⟨_, h4, _⟩
      · exact h4
      · exact absurd h4 h3

theorem alts_insert {ts : List Tk} {a : List Al} {en : Int} {x : Tk} (h : run ⟨[], .start⟩ ts = .ok ⟨a, .start⟩) (hx : x.kind ≠ 1) (k : Nat) (hk : k = 0 ∨ ∃ i, ∃ hi : i < ts.length, i + 1 = k ∧ ts[i].kind = 5) :
    alts (ts.take k ++ [x] ++ ts.drop k) en = .error (12, x.pos) := by
  have : ∃ acc, run ⟨[], .start⟩ (ts.take k) = .ok ⟨acc, .start⟩ := by
    rcases hk with rfl | ⟨i, hi, rfl, he⟩
    · exact ⟨[], rfl⟩
    · exact run_at_end h i hi he
  obtain ⟨acc, hacc⟩ := this
  unfold alts whole
  rw [List.append_assoc, run_append, hacc]
  simp only [List.singleton_append]
  rw [run, step_noname hx]

/-- how many tokens are of a kind -/
def cnt (k : Int) (ts : List Tk) : Nat := ts.countP (fun t => decide (t.kind = k))
/-- how many names and quotes -/
def cntW (ts : List Tk) : Nat := ts.countP (fun t => decide (t.kind = 1 ∨ t.kind = 2))
/-- all right sides' lengths -/
def sumR (l : List Al) : Nat := (l.map (fun x => x.2.length)).sum
/-- what of a definition is there, and is in no alternative yet -/
def pend : Md → Nat
  | .start => 0
  | .eq _ => 1
  | .body _ a => 1 + a.length
/-- a left side is a name -/
def leftOk : Md → Prop
  | .start => True
  | .eq l => l.kind = 1
  | .body l _ => l.kind = 1

theorem cnt_take (q : Int) (ts : List Tk) (k : Nat) (h : k < ts.length) : cnt q (ts.take (k + 1)) = cnt q (ts.take k) + (if ts[k].kind = q then 1 else 0) := by
  have e : ts.take (k + 1) = ts.take k ++ [ts[k]] := by rw [List.take_add_one, List.getElem?_eq_getElem h]; rfl
  rw [e, cnt, List.countP_append]
  simp [cnt, List.countP_cons]
theorem cntW_take (ts : List Tk) (k : Nat) (h : k < ts.length) : cntW (ts.take (k + 1)) = cntW (ts.take k) + (if ts[k].kind = 1 ∨ ts[k].kind = 2 then 1 else 0) := by
  have e : ts.take (k + 1) = ts.take k ++ [ts[k]] := by rw [List.take_add_one, List.getElem?_eq_getElem h]; rfl
  rw [e, cntW, List.countP_append]
  simp [cntW, List.countP_cons]
theorem sumR_take (xs : List Al) (k : Nat) (h : k < xs.length) : sumR (xs.take (k + 1)) = sumR (xs.take k) + xs[k].2.length := by
  have e : xs.take (k + 1) = xs.take k ++ [xs[k]] := by rw [List.take_add_one, List.getElem?_eq_getElem h]; rfl
  rw [e]; unfold sumR; rw [List.map_append, List.sum_append]; simp

theorem sumR_snoc (l : List Al) (x : Al) : sumR (l ++ [x]) = sumR l + x.2.length := by simp [sumR]

theorem run_counts {s s' : St} {ts : List Tk} (h : run s ts = .ok s') :
    s'.acc.length = s.acc.length + cnt 4 ts + cnt 5 ts ∧ sumR s'.acc + pend s'.md + cnt 5 ts = sumR s.acc + pend s.md + cntW ts ∧
    ((∀ x ∈ s.acc, x.1.kind = 1) ∧ leftOk s.md → (∀ x ∈ s'.acc, x.1.kind = 1) ∧ leftOk s'.md) ∧ (s'.md = .start → ts ≠ [] → 1 ≤ cnt 5 ts) := by
  induction ts generalizing s with
  | nil => rw [run] at h; cases h; simp [cnt, cntW]
  | cons t r ih =>
    rw [run] at h
    cases hs : step s t with
    | error e => rw [hs] at h; cases h
    | ok s1 =>
      rw [hs] at h
      obtain ⟨i1, i2, i3, i4⟩ := ih h
      have e4 : cnt 4 (t :: r) = cnt 4 r + (if t.kind = 4 then 1 else 0) := by simp [cnt, List.countP_cons]
      have e5 : cnt 5 (t :: r) = cnt 5 r + (if t.kind = 5 then 1 else 0) := by simp [cnt, List.countP_cons]
      have eW : cntW (t :: r) = cntW r + (if t.kind = 1 ∨ t.kind = 2 then 1 else 0) := by simp [cntW, List.countP_cons]
      have hlast : s'.md = .start → r = [] → t.kind = 5 := by
        intro hm hr
        subst hr
        have h' : run s1 [] = .ok s' := h
        rw [run] at h'; cases h'
        rcases step_ok hs with ⟨_, _, rfl⟩ | ⟨l, _, _, rfl⟩ | ⟨l, a, _, _, rfl⟩ | ⟨l, a, _, _, _, _, rfl⟩ | ⟨l, a, _, h5, _, _, rfl⟩
        · cases hm
        · cases hm
        · cases hm
        · cases hm
        · exact h5
      refine ⟨?_, ?_, ?_, ?_⟩
      · rw [e4, e5, i1]
        rcases step_ok hs with ⟨_, hq, rfl⟩ | ⟨l, _, hq, rfl⟩ | ⟨l, a, _, hq, rfl⟩ | ⟨l, a, _, hq, _, _, rfl⟩ | ⟨l, a, _, hq, _, _, rfl⟩
        · rw [if_neg (by omega), if_neg (by omega)]; simp
        · rw [if_neg (by omega), if_neg (by omega)]; simp
        · rw [if_neg (by omega), if_neg (by omega)]; simp
        · rw [if_pos hq, if_neg (by omega)]; simp; omega
        · rw [if_neg (by omega), if_pos hq]; simp; omega
      · rw [e5, eW]
        rcases step_ok hs with ⟨hm, hq, rfl⟩ | ⟨l, hm, hq, rfl⟩ | ⟨l, a, hm, hq, rfl⟩ | ⟨l, a, hm, hq, _, _, rfl⟩ | ⟨l, a, hm, hq, _, _, rfl⟩
        · rw [hm, if_neg (by omega), if_pos (by omega)]; simp only [pend] at i2 ⊢; omega
        · rw [hm, if_neg (by omega), if_neg (by omega)]; simp only [pend, List.length_nil] at i2 ⊢; omega
        · rw [hm, if_neg (by omega), if_pos hq]; simp only [pend, List.length_append, List.length_cons, List.length_nil] at i2 ⊢; omega
        · rw [hm, if_neg (by omega), if_neg (by omega)]; simp only [pend, sumR_snoc, List.length_nil] at i2 ⊢; omega
        · rw [hm, if_pos hq, if_neg (by omega)]; simp only [pend, sumR_snoc] at i2 ⊢; omega
      · rintro ⟨g1, g2⟩
        apply i3
        rcases step_ok hs with ⟨hm, hq, rfl⟩ | ⟨l, hm, hq, rfl⟩ | ⟨l, a, hm, hq, rfl⟩ | ⟨l, a, hm, hq, _, _, rfl⟩ | ⟨l, a, hm, hq, _, _, rfl⟩
        · exact ⟨g1, hq⟩
        · rw [hm] at g2; exact ⟨g1, g2⟩
        · rw [hm] at g2; exact ⟨g1, g2⟩
        · rw [hm] at g2
          refine ⟨fun x hx => ?_, g2⟩
          rcases List.mem_append.1 hx with hx | hx
          · exact g1 x hx
          · simp at hx; subst hx; exact g2
        · rw [hm] at g2
          refine ⟨fun x hx => ?_, trivial⟩
          rcases List.mem_append.1 hx with hx | hx
          · exact g1 x hx
          · simp at hx; subst hx; exact g2
      · intro hm _
        rw [e5]
        by_cases hr : r = []
        · rw [if_pos (hlast hm hr)]; omega
        · have := i4 hm hr; omega

theorem alts_counts {ts : List Tk} {a : List Al} (h : run ⟨[], .start⟩ ts = .ok ⟨a, .start⟩) (ha : a ≠ []) :
    a.length = cnt 4 ts + cnt 5 ts ∧ sumR a + cnt 5 ts = cntW ts ∧ 1 ≤ cnt 5 ts ∧ ∀ x ∈ a, x.1.kind = 1 := by
  obtain ⟨h1, h2, h3, h4⟩ := run_counts h
  have hne : ts ≠ [] := by
    intro e; subst e
    rw [run] at h; cases h; exact ha rfl
  simp only [List.length_nil, pend, sumR, List.map_nil, List.sum_nil] at h1 h2
  refine ⟨by omega, ?_, h4 rfl hne, (h3 ⟨fun x hx => by simp at hx, trivial⟩).1⟩
  simp only [sumR]; omega

/-- alternatives' right sides are short, and there are not too many -/
theorem run_small {s s' : St} {ts : List Tk} (h : run s ts = .ok s') (hs : s.acc.length ≤ 60 ∧ ∀ x ∈ s.acc, x.2.length ≤ 8) : s'.acc.length ≤ 60 ∧ ∀ x ∈ s'.acc, x.2.length ≤ 8 := by
  induction ts generalizing s with
  | nil => rw [run] at h; cases h; exact hs
  | cons t r ih =>
    rw [run] at h
    cases hst : step s t with
    | error e => rw [hst] at h; cases h
    | ok s1 =>
      rw [hst] at h
      apply ih h
      rcases step_ok hst with ⟨hm, hq, rfl⟩ | ⟨l, hm, hq, rfl⟩ | ⟨l, a, hm, hq, rfl⟩ | ⟨l, a, hm, hq, h60, h8, rfl⟩ | ⟨l, a, hm, hq, h60, h8, rfl⟩
      · exact hs
      · exact hs
      · exact hs
      · refine ⟨by simp; omega, fun x hx => ?_⟩
        rcases List.mem_append.1 hx with hx | hx
        · exact hs.2 x hx
        · simp at hx; subst hx; exact h8
      · refine ⟨by simp; omega, fun x hx => ?_⟩
        rcases List.mem_append.1 hx with hx | hx
        · exact hs.2 x hx
        · simp at hx; subst hx; exact h8

theorem altsG_small {ts : List Tk} {en E At : Int} {xs : List Al} (h : altsG ts en = (E, At, xs)) : xs.length ≤ 60 ∧ ∀ x ∈ xs, x.2.length ≤ 8 := by
  rcases altsG_cases ts en with ⟨l, _, h2, h3, _⟩ | ⟨e, _, h2, _⟩
  · rw [h2] at h; cases h
    exact run_small h3 ⟨by simp, fun x hx => by simp at hx⟩
  · rw [h2] at h; cases h
    exact ⟨by simp, fun x hx => by simp at hx⟩

/-- a token as a name; as a name if it is no quote -/
def nm (t : Tk) : Tk := ⟨1, t.text, t.pos⟩
def norm (t : Tk) : Tk := if t.kind = 2 then t else nm t
def isT : Tk := ⟨3, ⟨#[]⟩, 0⟩
def barT : Tk := ⟨4, ⟨#[]⟩, 0⟩
def endT : Tk := ⟨5, ⟨#[]⟩, 0⟩

theorem norm_sym (t : Tk) : (norm t).kind = 1 ∨ (norm t).kind = 2 := by
  unfold norm
  split
  · right; assumption
  · left; rfl

theorem run_syms (acc : List Al) (l : Tk) : ∀ (r a : List Tk), run ⟨acc, .body l a⟩ (r.map norm) = .ok ⟨acc, .body l (a ++ r.map norm)⟩
  | [], a => by simp [run]
  | t :: r, a => by
    rw [List.map_cons, run, step_sym (norm_sym t)]
    simp only
    rw [run_syms acc l r, List.append_assoc]; rfl

/-- an alternative as tokens; as it is read -/
def defT (x : Al) : List Tk := nm x.1 :: isT :: x.2.map norm ++ [endT]
def wantA (x : Al) : Al := (nm x.1, x.2.map norm)

theorem run_def (acc : List Al) (x : Al) (h : acc.length < 60) (h8 : x.2.length ≤ 8) : run ⟨acc, .start⟩ (defT x) = .ok ⟨acc ++ [wantA x], .start⟩ := by
  unfold defT
  rw [List.cons_append, List.cons_append, run, step_name rfl]
  simp only
  rw [run, step_is rfl]
  simp only
  rw [run_append, run_syms]
  simp only [List.nil_append]
  rw [run, step_end rfl (by rw [List.length_map]; omega)]
  simp only
  rw [run]; rfl

theorem run_defs : ∀ (xs : List Al) (acc : List Al), acc.length + xs.length ≤ 60 → (∀ x ∈ xs, x.2.length ≤ 8) → run ⟨acc, .start⟩ (xs.flatMap defT) = .ok ⟨acc ++ xs.map wantA, .start⟩
  | [], acc, _, _ => by simp [run]
  | x :: r, acc, h, h8 => by
    rw [List.flatMap_cons, run_append, run_def acc x (by simp at h; omega) (h8 x (by simp))]
    simp only
    rw [run_defs r _ (by simp at h ⊢; omega) (fun y hy => h8 y (by simp [hy])), List.append_assoc]; rfl

theorem alts_defs {xs : List Al} {en : Int} (h0 : xs ≠ []) (h : xs.length ≤ 60) (h8 : ∀ x ∈ xs, x.2.length ≤ 8) : altsG (xs.flatMap defT) en = (0, 0, xs.map wantA) := by
  apply altsG_ok
  unfold alts whole
  rw [run_defs xs [] (by simpa using h) h8]
  simp [fin, h0]

theorem alts_defs_cut {xs : List Al} {en : Int} (h0 : xs ≠ []) (h : xs.length ≤ 60) (h8 : ∀ x ∈ xs, x.2.length ≤ 8) : altsG ((xs.flatMap defT).take ((xs.flatMap defT).length - 1)) en = (12, en, []) := by
  have hr := run_defs xs [] (by simpa using h) h8
  obtain ⟨ys, y, rfl⟩ : ∃ ys y, xs = ys ++ [y] := ⟨xs.dropLast, xs.getLast h0, (List.dropLast_concat_getLast h0).symm⟩
  have e : (ys ++ [y]).flatMap defT = (ys.flatMap defT ++ (nm y.1 :: isT :: y.2.map norm)) ++ [endT] := by simp [defT]
  rw [e] at hr ⊢
  rw [List.length_append, List.length_singleton, Nat.add_sub_cancel, List.take_left]
  rw [run_append] at hr
  cases hq : run ⟨[], .start⟩ (ys.flatMap defT ++ (nm y.1 :: isT :: y.2.map norm)) with
  | error e => rw [hq] at hr; cases hr
  | ok s1 =>
    rw [hq] at hr
    simp only at hr
    rw [run] at hr
    have hm : s1.md ≠ .start := by
      intro hm
      obtain ⟨acc, md⟩ := s1
      simp only at hm
      subst hm
      rw [step_noname (by decide)] at hr; cases hr
    have : alts (ys.flatMap defT ++ (nm y.1 :: isT :: y.2.map norm)) en = .error (12, en) := by
      unfold alts whole
      rw [hq]
      simp only
      rcases fin_cases en s1 with ⟨h4, _⟩ | ⟨_, h4, _⟩
      · exact h4
      · exact absurd h4 hm
    exact altsG_err this

/-- alternatives with bars between -/
def barsT (xs : List (List Tk)) : Nat → List Tk
  | 0 => []
  | i + 1 => barsT xs i ++ (if 0 < i then [barT] else []) ++ (xs.getD i []).map norm

theorem run_bars (l : Tk) (xs : List (List Tk)) (h : xs.length ≤ 60) (h8 : ∀ r ∈ xs, r.length ≤ 8) : ∀ i, i < xs.length →
    run ⟨[], .body l []⟩ (barsT xs (i + 1)) = .ok ⟨(xs.take i).map (fun r => (l, r.map norm)), .body l ((xs.getD i []).map norm)⟩
  | 0, _ => by
    rw [barsT, barsT]
    simp only [List.nil_append, Nat.lt_irrefl, if_false, List.take_zero, List.map_nil]
    rw [run_syms]; rfl
  | i + 1, hi => by
    have ih := run_bars l xs h h8 i (by omega)
    rw [barsT, run_append, run_append, ih, if_pos (by omega)]
    simp only
    have h8' : ((xs.getD i []).map norm).length ≤ 8 := by
      rw [List.length_map, List.getD_eq_getElem?_getD, List.getElem?_eq_getElem (by omega)]
      exact h8 _ (List.getElem_mem _)
    rw [run, step_bar rfl (by rw [List.length_map, List.length_take]; omega)]
    simp only
    rw [run]
    simp only
    rw [run_syms, List.nil_append]
    have e : (xs.take (i + 1)).map (fun r => (l, r.map norm)) = (xs.take i).map (fun r => (l, r.map norm)) ++ [(l, (xs.getD i []).map norm)] := by
      rw [List.take_add_one, List.getD_eq_getElem?_getD, List.getElem?_eq_getElem (by omega), List.map_append]; rfl
    rw [e]

theorem alts_bars {l : Tk} {xs : List (List Tk)} {en : Int} (hl : l.kind = 1) (h0 : 0 < xs.length) (h : xs.length ≤ 60) (h8 : ∀ r ∈ xs, r.length ≤ 8) :
    altsG ([l, isT] ++ barsT xs xs.length ++ [endT]) en = (0, 0, xs.map (fun r => (l, r.map norm))) := by
  obtain ⟨n, hn⟩ : ∃ n, xs.length = n + 1 := ⟨xs.length - 1, by omega⟩
  apply altsG_ok
  have hr := run_bars l xs h h8 n (by omega)
  have h8' : ((xs.getD n []).map norm).length ≤ 8 := by
    rw [List.length_map, List.getD_eq_getElem?_getD, List.getElem?_eq_getElem (by omega)]
    exact h8 _ (List.getElem_mem _)
  have e : (xs.take n).map (fun r => (l, r.map norm)) ++ [(l, (xs.getD n []).map norm)] = xs.map (fun r => (l, r.map norm)) := by
    have : xs = xs.take n ++ [xs[n]] := by
      conv => lhs; rw [← List.take_append_drop n xs, List.drop_eq_getElem_cons (by omega), List.drop_of_length_le (by omega)]
    conv => rhs; rw [this]
    rw [List.map_append, List.getD_eq_getElem?_getD, List.getElem?_eq_getElem (by omega)]; rfl
  have : run ⟨[], .start⟩ ([l, isT] ++ barsT xs xs.length ++ [endT]) = .ok ⟨xs.map (fun r => (l, r.map norm)), .start⟩ := by
    rw [hn]
    rw [List.append_assoc, List.cons_append, run, step_name hl]
    simp only [List.cons_append, List.nil_append]
    rw [run, step_is rfl]
    simp only
    rw [run_append, hr]
    simp only
    rw [run, step_end rfl (by rw [List.length_map, List.length_take]; omega)]
    simp only
    rw [run, e]
  unfold alts whole
  rw [this]
  simp only [fin, List.length_map]
  rw [if_neg (by omega)]
end Go.Proofs.Ytdocbgfpnaiijaa.Rd
