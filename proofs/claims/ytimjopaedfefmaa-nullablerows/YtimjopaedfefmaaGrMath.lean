/-
  The plain mathematics of layer 3 (grammar): a grammar of alternatives; whether a grammar may be. Nothing of the program is imported here.
-/
import Derived.Test.YtimjopaedfefmaaReadMath
import Derived.Test.YtimjopaedfefmaaLexMath
namespace Go.Proofs.Ytimjopaedfefmaa.Gr
open Go.Proofs.Ytimjopaedfefmaa.Rd

/-- a rule: its left side, its right side -/
abbrev Rl := Int × List Int

structure Gm where
  terms : List ByteArray
  names : List ByteArray
  rules : List Rl

/-- the place of the first one of some that is x, or -1 -/
def pos {α : Type} [DecidableEq α] (x : α) : List α → Int
  | [] => -1
  | y :: r => if x = y then 0 else if pos x r = -1 then -1 else 1 + pos x r

theorem pos_has {α : Type} [DecidableEq α] (x : α) : ∀ l : List α, -1 ≤ pos x l ∧ decide (0 ≤ pos x l) = decide (x ∈ l) ∧ pos x l < l.length
  | [] => by simp [pos]
  | y :: r => by
    obtain ⟨h1, h2, h3⟩ := pos_has x r
    rw [pos]
    by_cases e : x = y
    · subst e; simp
    · rw [if_neg e]
      have e2 : decide (x ∈ y :: r) = decide (x ∈ r) := by simp [e]
      rw [e2, ← h2, List.length_cons]
      by_cases q : pos x r = -1
      · rw [if_pos q, q]; refine ⟨by omega, by simp, by omega⟩
      · rw [if_neg q]; refine ⟨by omega, ?_, by omega⟩; rw [decide_eq_decide]; omega

theorem pos_get {α : Type} [DecidableEq α] (x : α) : ∀ (l : List α) (k : Nat) (h : k < l.length), pos x l = k → l[k] = x
  | [], k, h, _ => by simp at h
  | y :: r, k, h, e => by
    rw [pos] at e
    by_cases q : x = y
    · rw [if_pos q] at e
      have : k = 0 := by omega
      subst this; simp [q]
    · rw [if_neg q] at e
      by_cases z : pos x r = -1
      · rw [if_pos z] at e; omega
      · rw [if_neg z] at e
        have h1 := (pos_has x r).1
        cases k with
        | zero => omega
        | succ k => rw [List.getElem_cons_succ]; exact pos_get x r k (by simpa using h) (by omega)

theorem pos_mem {α : Type} [DecidableEq α] {x : α} {l : List α} (h : x ∈ l) : ∃ k : Nat, ∃ hk : k < l.length, pos x l = k ∧ l[k] = x := by
  obtain ⟨h1, h2, h3⟩ := pos_has x l
  have h4 : 0 ≤ pos x l := by have : decide (x ∈ l) = true := by simp [h]
                              rw [this] at h2; simpa using h2
  refine ⟨(pos x l).toNat, by omega, by omega, pos_get x l _ (by omega) (by omega)⟩

theorem pos_none {α : Type} [DecidableEq α] {x : α} {l : List α} (h : x ∉ l) : pos x l = -1 := by
  obtain ⟨h1, h2, _⟩ := pos_has x l
  have : decide (x ∈ l) = false := by simp [h]
  rw [this] at h2
  have := of_decide_eq_false h2
  omega

/-- with x at its end, unless it is there -/
def has {α : Type} [DecidableEq α] (x : α) (l : List α) : Bool := decide (x ∈ l)
def put {α : Type} [DecidableEq α] (l : List α) (x : α) : List α := if x ∈ l then l else l ++ [x]

theorem has_yes {α : Type} [DecidableEq α] {x : α} {l : List α} (h : has x l = true) : x ∈ l := of_decide_eq_true h
theorem has_no {α : Type} [DecidableEq α] {x : α} {l : List α} (h : has x l = false) : x ∉ l := of_decide_eq_false h
theorem has_mem {α : Type} [DecidableEq α] {x : α} {l : List α} (h : x ∈ l) : has x l = true := decide_eq_true h
theorem has_not {α : Type} [DecidableEq α] {x : α} {l : List α} (h : x ∉ l) : has x l = false := decide_eq_false h
theorem put_in {α : Type} [DecidableEq α] {l : List α} {x : α} (h : x ∈ l) : put l x = l := if_pos h
theorem put_new {α : Type} [DecidableEq α] {l : List α} {x : α} (h : x ∉ l) : put l x = l ++ [x] := if_neg h
theorem put_len {α : Type} [DecidableEq α] (l : List α) (x : α) : (put l x).length ≤ l.length + 1 := by
  unfold put; split <;> simp

theorem take_step {α β : Type} (f : β → α → β) (b : β) (xs : List α) (k : Nat) (h : k < xs.length) : (xs.take (k + 1)).foldl f b = f ((xs.take k).foldl f b) xs[k] := by
  rw [List.take_add_one, List.getElem?_eq_getElem h, List.foldl_append]; rfl

/-- the left sides -/
def names (as : List Al) : List ByteArray := as.foldl (fun l a => put l a.1.text) []
/-- one symbol's quote more -/
def quote (l : List ByteArray) (t : Tk) : List ByteArray := if t.kind = 2 then put l t.text else l
def quotes (l : List ByteArray) (a : Al) : List ByteArray := a.2.foldl quote l
/-- the quotes -/
def terms (as : List Al) : List ByteArray := as.foldl quotes []

theorem names_len (as : List Al) (k : Nat) : (names (as.take k)).length ≤ k := by
  unfold names
  induction k with
  | zero => simp
  | succ k ih =>
    by_cases h : k < as.length
    · rw [take_step _ _ _ _ h]; have := put_len ((as.take k).foldl (fun l a => put l a.1.text) []) as[k].1.text; omega
    · rw [List.take_of_length_le (by omega)] at ih ⊢; omega
theorem names_step (as : List Al) (k : Nat) (h : k < as.length) : names (as.take (k + 1)) = put (names (as.take k)) as[k].1.text := by
  unfold names; rw [take_step _ _ _ _ h]
theorem terms_step (as : List Al) (k : Nat) (h : k < as.length) : terms (as.take (k + 1)) = quotes (terms (as.take k)) as[k] := by
  unfold terms; rw [take_step _ _ _ _ h]
theorem quotes_step (l : List ByteArray) (ts : List Tk) (k : Nat) (h : k < ts.length) : (ts.take (k + 1)).foldl quote l = quote ((ts.take k).foldl quote l) ts[k] := take_step _ _ _ _ h
theorem quote_len (l : List ByteArray) (t : Tk) : (quote l t).length ≤ l.length + 1 := by
  unfold quote; split
  · exact put_len _ _
  · omega
theorem quotes_len (l : List ByteArray) (ts : List Tk) (k : Nat) : ((ts.take k).foldl quote l).length ≤ l.length + k := by
  induction k with
  | zero => simp
  | succ k ih =>
    by_cases h : k < ts.length
    · rw [take_step _ _ _ _ h]; have := quote_len ((ts.take k).foldl quote l) ts[k]; omega
    · rw [List.take_of_length_le (by omega)] at ih ⊢; omega
theorem terms_len (as : List Al) (h8 : ∀ a ∈ as, a.2.length ≤ 8) (k : Nat) : (terms (as.take k)).length ≤ k * 8 := by
  induction k with
  | zero => simp [terms]
  | succ k ih =>
    by_cases h : k < as.length
    · rw [terms_step _ _ h]
      have h1 := quotes_len (terms (as.take k)) as[k].2 as[k].2.length
      rw [List.take_length] at h1
      have h2 := h8 as[k] (List.getElem_mem h)
      unfold quotes; omega
    · rw [List.take_of_length_le (by omega)] at ih ⊢; omega

/-- the place of the first name that nothing defines -/
def undefT (ns : List ByteArray) : List Tk → Option Int
  | [] => none
  | t :: r => if t.kind = 1 ∧ has t.text ns = false then some t.pos else undefT ns r
def undef (ns : List ByteArray) : List Al → Option Int
  | [] => none
  | a :: r => (undefT ns a.2).or (undef ns r)

def sym (ts ns : List ByteArray) (t : Tk) : Int := if t.kind = 2 then pos t.text ts else ts.length + pos t.text ns
def rule (ts ns : List ByteArray) (a : Al) : Rl := (sym ts ns a.1, a.2.map (sym ts ns))
def rules (ts ns : List ByteArray) (as : List Al) : List Rl := as.foldl (fun l a => put l (rule ts ns a)) []

/-- the grammar of alternatives, or the error -/
def of (as : List Al) : Except Er Gm :=
  match undef (names as) as with
  | some p => .error (13, p)
  | none => if 40 < (names as).length ∨ 40 < (terms as).length then .error (14, 0) else .ok ⟨terms as, names as, rules (terms as) (names as) as⟩

theorem put_mem {α : Type} [DecidableEq α] {l : List α} {x y : α} (h : y ∈ put l x) : y ∈ l ∨ y = x := by
  unfold put at h
  split at h
  · exact .inl h
  · rcases List.mem_append.1 h with h | h
    · exact .inl h
    · exact .inr (by simpa using h)
theorem put_sub {α : Type} [DecidableEq α] {l : List α} {x y : α} (h : y ∈ l) : y ∈ put l x := by
  unfold put; split
  · exact h
  · exact List.mem_append_left _ h
theorem put_self {α : Type} [DecidableEq α] (l : List α) (x : α) : x ∈ put l x := by
  unfold put; split
  · assumption
  · simp
theorem names_mem (as : List Al) (s : ByteArray) (h : s ∈ names as) : ∃ a ∈ as, s = a.1.text := by
  have key : ∀ k, s ∈ names (as.take k) → ∃ a ∈ as, s = a.1.text := by
    intro k
    induction k with
    | zero => intro h; simp [names] at h
    | succ k ih =>
      intro h
      by_cases hk : k < as.length
      · rw [names_step _ _ hk] at h
        rcases put_mem h with h | h
        · exact ih h
        · exact ⟨_, List.getElem_mem hk, h⟩
      · rw [List.take_of_length_le (by omega)] at h ih; exact ih h
  exact key as.length (by rw [List.take_length]; exact h)
theorem quotes_mem (l : List ByteArray) (ts : List Tk) (s : ByteArray) (h : s ∈ ts.foldl quote l) : s ∈ l ∨ ∃ t ∈ ts, t.kind = 2 ∧ s = t.text := by
  induction ts generalizing l with
  | nil => exact .inl h
  | cons t r ih =>
    rw [List.foldl_cons] at h
    rcases ih _ h with h | ⟨u, hu, h⟩
    · unfold quote at h
      split at h
      · rcases put_mem h with h | h
        · exact .inl h
        · exact .inr ⟨t, List.mem_cons_self, by assumption, h⟩
      · exact .inl h
    · exact .inr ⟨u, List.mem_cons_of_mem _ hu, h⟩
theorem terms_mem (as : List Al) (s : ByteArray) (h : s ∈ terms as) : ∃ a ∈ as, ∃ t ∈ a.2, t.kind = 2 ∧ s = t.text := by
  have key : ∀ k, s ∈ terms (as.take k) → ∃ a ∈ as, ∃ t ∈ a.2, t.kind = 2 ∧ s = t.text := by
    intro k
    induction k with
    | zero => intro h; simp [terms] at h
    | succ k ih =>
      intro h
      by_cases hk : k < as.length
      · rw [terms_step _ _ hk] at h
        rcases quotes_mem _ _ _ h with h | ⟨t, ht, h⟩
        · exact ih h
        · exact ⟨_, List.getElem_mem hk, t, ht, h⟩
      · rw [List.take_of_length_le (by omega)] at h ih; exact ih h
  exact key as.length (by rw [List.take_length]; exact h)
theorem rules_step (ts ns : List ByteArray) (as : List Al) (k : Nat) (h : k < as.length) : rules ts ns (as.take (k + 1)) = put (rules ts ns (as.take k)) (rule ts ns as[k]) := by
  unfold rules; rw [take_step _ _ _ _ h]
theorem rules_len (ts ns : List ByteArray) (as : List Al) (k : Nat) : (rules ts ns (as.take k)).length ≤ k := by
  unfold rules
  induction k with
  | zero => simp
  | succ k ih =>
    by_cases h : k < as.length
    · rw [take_step _ _ _ _ h]; have := put_len ((as.take k).foldl (fun l a => put l (rule ts ns a)) []) (rule ts ns as[k]); omega
    · rw [List.take_of_length_le (by omega)] at ih ⊢; omega
theorem rules_mem (ts ns : List ByteArray) (as : List Al) (k : Nat) (r : Rl) (h : r ∈ rules ts ns (as.take k)) : ∃ a ∈ as.take k, r = rule ts ns a := by
  induction k with
  | zero => simp [rules] at h
  | succ k ih =>
    by_cases hk : k < as.length
    · rw [rules_step _ _ _ _ hk] at h
      rcases put_mem h with h | h
      · obtain ⟨a, ha, e⟩ := ih h
        exact ⟨a, (List.take_subset_take_left as (Nat.le_succ k)) ha, e⟩
      · refine ⟨as[k], ?_, h⟩
        rw [List.take_add_one, List.getElem?_eq_getElem hk]; exact List.mem_append_right _ (List.mem_singleton.2 rfl)
    · rw [List.take_of_length_le (by omega)] at h ih ⊢; exact ih h
theorem rules_right (ts ns : List ByteArray) (as : List Al) (h8 : ∀ a ∈ as, a.2.length ≤ 8) (k : Nat) : ∀ r ∈ rules ts ns (as.take k), r.2.length ≤ 8 := by
  intro r hr
  obtain ⟨a, ha, rfl⟩ := rules_mem _ _ _ _ _ hr
  have := h8 a (List.mem_of_mem_take ha)
  simpa [rule] using this

/-- the grammar of what the layers below tell: the error's number, where, the grammar -/
def ofG (t : Int × Int × List Tk) (n : Int) : Int × Int × Gm :=
  if t.1 ≠ 0 then (t.1, t.2.1, ⟨[], [], []⟩) else
  match altsG t.2.2 n with
  | (e, at', as) => if e ≠ 0 then (e, at', ⟨[], [], []⟩) else
    match of as with
    | .ok g => (0, 0, g)
    | .error er => (er.1, er.2, ⟨[], [], []⟩)

/-- how far numbers come in order -/
def comes : List Int → Int → Option Int
  | [], n => some n
  | x :: r, n => if n < x then none else comes r (if x = n then n + 1 else n)

/-- do all numbers from low up to high come, each behind those below it? -/
def inOrder (l : List Int) (low high : Int) : Bool := comes l low == some high

def isT (g : Gm) (s : Int) : Bool := decide (0 ≤ s ∧ s < g.terms.length)
def isN (g : Gm) (s : Int) : Bool := decide ((g.terms.length : Int) ≤ s ∧ s < (g.terms.length : Int) + g.names.length)
def fits (g : Gm) (r : Rl) : Bool := isN g r.1 && decide (r.2.length ≤ 8) && r.2.all (fun s => isT g s || isN g s)

/-- each one fits, none has come -/
def each {α : Type} [DecidableEq α] (p : α → Bool) (l : List α) : Bool := (List.range l.length).all (fun i => match l[i]? with | some x => p x && !has x (l.take i) | none => true)

def sizes (g : Gm) : Bool := decide (1 ≤ g.names.length ∧ g.names.length ≤ 40 ∧ g.terms.length ≤ 40 ∧ 1 ≤ g.rules.length ∧ g.rules.length ≤ 60)

/-- the terminals of right sides -/
def seen (g : Gm) : List Int := g.rules.flatMap (fun r => r.2.filter (isT g))

/-- may a grammar be? -/
def good (g : Gm) : Bool :=
  sizes g && each (fun s => Lx.isName s.data.toList) g.names && each (fun s => Lx.isTerm s.data.toList) g.terms && each (fits g) g.rules &&
  inOrder (g.rules.map (·.1)) g.terms.length ((g.terms.length : Int) + g.names.length) && inOrder (seen g) 0 g.terms.length

/-- a symbol's name -/
def name (g : Gm) (s : Int) : ByteArray × Bool :=
  if isT g s then (g.terms.getD s.toNat ⟨#[]⟩, true) else if isN g s then (g.names.getD (s - g.terms.length).toNat ⟨#[]⟩, true) else (⟨#[]⟩, false)
end Go.Proofs.Ytimjopaedfefmaa.Gr
