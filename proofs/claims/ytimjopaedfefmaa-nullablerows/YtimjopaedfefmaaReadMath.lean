/-
  The plain mathematics of layer 2 (read): the alternatives of tokens, as a machine that goes on token by token. Nothing of the program is imported here.
-/
namespace Go.Proofs.Ytimjopaedfefmaa.Rd

/-- a token: its kind, its text, where it begins -/
structure Tk where
  kind : Int
  text : ByteArray
  pos : Int

/-- an alternative: its left side, its right side -/
abbrev Al := Tk × List Tk

/-- what comes next: a definition; its sign; the right side of an alternative, of which some is there -/
inductive Md where
  | start
  | eq (l : Tk)
  | body (l : Tk) (a : List Tk)

structure St where
  acc : List Al
  md : Md

/-- an error's number, and where -/
abbrev Er := Int × Int

def step (s : St) (t : Tk) : Except Er St :=
  match s.md with
  | .start => if t.kind = 1 then .ok ⟨s.acc, .eq t⟩ else .error (12, t.pos)
  | .eq l => if t.kind = 3 then .ok ⟨s.acc, .body l []⟩ else .error (12, t.pos)
  | .body l a =>
    if t.kind = 1 ∨ t.kind = 2 then .ok ⟨s.acc, .body l (a ++ [t])⟩
    else if t.kind = 4 ∨ t.kind = 5 then
      if 60 ≤ s.acc.length ∨ 8 < a.length then .error (14, l.pos)
      else .ok ⟨s.acc ++ [(l, a)], if t.kind = 4 then .body l [] else .start⟩
    else .error (12, t.pos)

def run : St → List Tk → Except Er St
  | s, [] => .ok s
  | s, t :: r => match step s t with | .ok s' => run s' r | .error e => .error e

def fin (en : Int) (s : St) : Except Er (List Al) :=
  match s.md with
  | .start => if s.acc.length = 0 then .error (12, en) else .ok s.acc
  | _ => .error (12, en)

/-- what is left of the tokens, from a state on -/
def whole (en : Int) (s : St) (ts : List Tk) : Except Er (List Al) :=
  match run s ts with | .ok s' => fin en s' | .error e => .error e

/-- the alternatives of tokens, or the error -/
def alts (ts : List Tk) (en : Int) : Except Er (List Al) := whole en ⟨[], .start⟩ ts

/-- the error's number, where, the alternatives -/
def altsG (ts : List Tk) (en : Int) : Int × Int × List Al :=
  match alts ts en with | .ok l => (0, 0, l) | .error e => (e.1, e.2, [])

theorem whole_ok {en : Int} {s s' : St} {t : Tk} {r : List Tk} (h : step s t = .ok s') : whole en s (t :: r) = whole en s' r := by
  unfold whole; rw [run, h]
theorem whole_err {en : Int} {s : St} {t : Tk} {r : List Tk} {e : Er} (h : step s t = .error e) : whole en s (t :: r) = .error e := by
  unfold whole; rw [run, h]
theorem whole_nil {en : Int} {s : St} : whole en s [] = fin en s := rfl

theorem step_name {acc : List Al} {t : Tk} (h : t.kind = 1) : step ⟨acc, .start⟩ t = .ok ⟨acc, .eq t⟩ := by simp [step, h]
theorem step_noname {acc : List Al} {t : Tk} (h : ¬ t.kind = 1) : step ⟨acc, .start⟩ t = .error (12, t.pos) := by simp [step, h]
theorem step_is {acc : List Al} {l t : Tk} (h : t.kind = 3) : step ⟨acc, .eq l⟩ t = .ok ⟨acc, .body l []⟩ := by simp [step, h]
theorem step_nois {acc : List Al} {l t : Tk} (h : ¬ t.kind = 3) : step ⟨acc, .eq l⟩ t = .error (12, t.pos) := by simp [step, h]
theorem step_sym {acc : List Al} {l t : Tk} {a : List Tk} (h : t.kind = 1 ∨ t.kind = 2) : step ⟨acc, .body l a⟩ t = .ok ⟨acc, .body l (a ++ [t])⟩ := by
  simp only [step]; rw [if_pos h]
theorem step_other {acc : List Al} {l t : Tk} {a : List Tk} (h : ¬ (t.kind = 1 ∨ t.kind = 2)) (h2 : ¬ (t.kind = 4 ∨ t.kind = 5)) : step ⟨acc, .body l a⟩ t = .error (12, t.pos) := by
  simp only [step]; rw [if_neg h, if_neg h2]
theorem step_large {acc : List Al} {l t : Tk} {a : List Tk} (h2 : t.kind = 4 ∨ t.kind = 5) (h3 : 60 ≤ acc.length ∨ 8 < a.length) : step ⟨acc, .body l a⟩ t = .error (14, l.pos) := by
  simp only [step]; rw [if_neg (by omega), if_pos h2, if_pos h3]
theorem step_bar {acc : List Al} {l t : Tk} {a : List Tk} (h2 : t.kind = 4) (h3 : ¬ (60 ≤ acc.length ∨ 8 < a.length)) : step ⟨acc, .body l a⟩ t = .ok ⟨acc ++ [(l, a)], .body l []⟩ := by
  simp only [step]; rw [if_neg (by omega), if_pos (by omega), if_neg h3, if_pos h2]
theorem step_end {acc : List Al} {l t : Tk} {a : List Tk} (h2 : t.kind = 5) (h3 : ¬ (60 ≤ acc.length ∨ 8 < a.length)) : step ⟨acc, .body l a⟩ t = .ok ⟨acc ++ [(l, a)], .start⟩ := by
  simp only [step]; rw [if_neg (by omega), if_pos (by omega), if_neg h3, if_neg (by omega)]

theorem altsG_ok {ts : List Tk} {en : Int} {l : List Al} (h : alts ts en = .ok l) : altsG ts en = (0, 0, l) := by unfold altsG; rw [h]
theorem altsG_err {ts : List Tk} {en : Int} {e : Er} (h : alts ts en = .error e) : altsG ts en = (e.1, e.2, []) := by unfold altsG; rw [h]

theorem run_append : ∀ (s : St) (a b : List Tk), run s (a ++ b) = match run s a with | .ok s' => run s' b | .error e => .error e
  | s, [], b => by rw [List.nil_append, run]
  | s, t :: r, b => by
    rw [List.cons_append, run, run]
    cases h : step s t with
    | ok s' => simp only; exact run_append s' r b
    | error e => rfl

/-- a state has so many alternatives at most -/
theorem run_len {s s' : St} {ts : List Tk} (h : run s ts = .ok s') : s.acc.length ≤ s'.acc.length ∧ s'.acc.length ≤ s.acc.length + ts.length := by
  induction ts generalizing s with
  | nil => rw [run] at h; cases h; exact ⟨Nat.le_refl _, Nat.le_add_right _ _⟩
  | cons t r ih =>
    rw [run] at h
    cases hs : step s t with
    | error e => rw [hs] at h; cases h
    | ok s1 =>
      rw [hs] at h
      have h1 := ih h
      have h2 : s.acc.length ≤ s1.acc.length ∧ s1.acc.length ≤ s.acc.length + 1 := by
        obtain ⟨acc, md⟩ := s
        cases md with
        | start => by_cases k : t.kind = 1
                   · rw [step_name k] at hs; cases hs; simp
                   · rw [step_noname k] at hs; cases hs
        | eq l => by_cases k : t.kind = 3
                  · rw [step_is k] at hs; cases hs; simp
                  · rw [step_nois k] at hs; cases hs
        | body l a =>
          by_cases k : t.kind = 1 ∨ t.kind = 2
          · rw [step_sym k] at hs; cases hs; simp
          by_cases k2 : t.kind = 4 ∨ t.kind = 5
          · by_cases k3 : 60 ≤ acc.length ∨ 8 < a.length
            · rw [step_large k2 k3] at hs; cases hs
            · rcases k2 with k2 | k2
              · rw [step_bar k2 k3] at hs; cases hs; simp
              · rw [step_end k2 k3] at hs; cases hs; simp
          · rw [step_other k k2] at hs; cases hs
      rw [List.length_cons]
      omega
end Go.Proofs.Ytimjopaedfefmaa.Rd
