/-
  The plain mathematics of layer 3 (grammar): a grammar of alternatives; whether a grammar may be. Nothing of the program is imported here.
  The plain mathematics of layer 3: step by step, whether a grammar may be.
  The plain mathematics of layer 3: of what kind the tokens of alternatives are.
  The plain mathematics of layer 3: a symbol's name is its own. The plain mathematics of layer 3: a text that is written twice. The plain mathematics of layer 3: what is read may be. The mathematics of the law GrammarSpoilt: a grammar with a rule twice, with a name more, without its last rule. The mathematics of the document's own Good: rule by rule, with what has come, it is the same.
-/
import Derived.Test.YtdocbgfpnaiijaaReadMath
import Derived.Test.YtdocbgfpnaiijaaLexMath
namespace Go.Proofs.Ytdocbgfpnaiijaa.Gr
open Go.Proofs.Ytdocbgfpnaiijaa.Rd

/-- a rule: its left side, its right side -/
abbrev Rl := Int × List Int

structure Gm where
  terms : List ByteArray
  names : List ByteArray
  rules : List Rl

/-- the place of the first one of some that is x, or -1 -/
def pos {α : Type} [DecidableEq α] (x : α) : List α → Int
  | [] => -1
  | y :: r => if x = y then 0 else if pos x r = -1 then -1 else 1 + pos x r

theorem pos_has {α : Type} [DecidableEq α] (x : α) : ∀ l : List α, -1 ≤ pos x l ∧ decide (0 ≤ pos x l) = decide (x ∈ l) ∧ pos x l < l.length
  | [] => by simp [pos]
  | y :: r => by
    obtain ⟨h1, h2, h3⟩ := pos_has x r
    rw [pos]
    by_cases e : x = y
    · subst e; simp
    · rw [if_neg e]
      have e2 : decide (x ∈ y :: r) = decide (x ∈ r) := by simp [e]
      rw [e2, ← h2, List.length_cons]
      by_cases q : pos x r = -1
      · rw [if_pos q, q]; refine ⟨by omega, by simp, by omega⟩
      · rw [if_neg q]; refine ⟨by omega, ?_, by omega⟩; rw [decide_eq_decide]; omega

theorem pos_get {α : Type} [DecidableEq α] (x : α) : ∀ (l : List α) (k : Nat) (h : k < l.length), pos x l = k → l[k] = x
  | [], k, h, _ => by simp at h
  | y :: r, k, h, e => by
    rw [pos] at e
    by_cases q : x = y
    · rw [if_pos q] at e
      have : k = 0 := by omega
      subst this; simp [q]
    · rw [if_neg q] at e
      by_cases z : pos x r = -1
      · rw [if_pos z] at e; omega
      · rw [if_neg z] at e
        have h1 := (pos_has x r).1
        cases k with
        | zero => omega
        | succ k => rw [List.getElem_cons_succ]; exact pos_get x r k (by simpa using h) (by omega)

theorem pos_mem {α : Type} [DecidableEq α] {x : α} {l : List α} (h : x ∈ l) : ∃ k : Nat, ∃ hk : k < l.length, pos x l = k ∧ l[k] = x := by
  obtain ⟨h1, h2, h3⟩ := pos_has x l
  have h4 : 0 ≤ pos x l := by have : decide (x ∈ l) = true := by simp [h]
                              rw [this] at h2; simpa using h2
  refine ⟨(pos x l).toNat, by omega, by omega, pos_get x l _ (by omega) (by omega)⟩

theorem pos_none {α : Type} [DecidableEq α] {x : α} {l : List α} (h : x ∉ l) : pos x l = -1 := by
  obtain ⟨h1, h2, _⟩ := pos_has x l
  have : decide (x ∈ l) = false := by simp [h]
  rw [this] at h2
  have := of_decide_eq_false h2
  omega

/-- with x at its end, unless it is there -/
def has {α : Type} [DecidableEq α] (x : α) (l : List α) : Bool := decide (x ∈ l)
def put {α : Type} [DecidableEq α] (l : List α) (x : α) : List α := if x ∈ l then l else l ++ [x]

theorem has_yes {α : Type} [DecidableEq α] {x : α} {l : List α} (h : has x l = true) : x ∈ l := of_decide_eq_true h
theorem has_no {α : Type} [DecidableEq α] {x : α} {l : List α} (h : has x l = false) : x ∉ l := of_decide_eq_false h
theorem has_mem {α : Type} [DecidableEq α] {x : α} {l : List α} (h : x ∈ l) : has x l = true := decide_eq_true h
theorem has_not {α : Type} [DecidableEq α] {x : α} {l : List α} (h : x ∉ l) : has x l = false := decide_eq_false h
theorem put_in {α : Type} [DecidableEq α] {l : List α} {x : α} (h : x ∈ l) : put l x = l := if_pos h
theorem put_new {α : Type} [DecidableEq α] {l : List α} {x : α} (h : x ∉ l) : put l x = l ++ [x] := if_neg h
theorem put_len {α : Type} [DecidableEq α] (l : List α) (x : α) : (put l x).length ≤ l.length + 1 := by
  unfold put; split <;> simp

theorem take_step {α β : Type} (f : β → α → β) (b : β) (xs : List α) (k : Nat) (h : k < xs.length) : (xs.take (k + 1)).foldl f b = f ((xs.take k).foldl f b) xs[k] := by
  rw [List.take_add_one, List.getElem?_eq_getElem h, List.foldl_append]; rfl

/-- the left sides -/
def names (as : List Al) : List ByteArray := as.foldl (fun l a => put l a.1.text) []
/-- one symbol's quote more -/
def quote (l : List ByteArray) (t : Tk) : List ByteArray := if t.kind = 2 then put l t.text else l
def quotes (l : List ByteArray) (a : Al) : List ByteArray := a.2.foldl quote l
/-- the quotes -/
def terms (as : List Al) : List ByteArray := as.foldl quotes []

theorem names_len (as : List Al) (k : Nat) : (names (as.take k)).length ≤ k := by
  unfold names
  induction k with
  | zero => simp
  | succ k ih =>
    by_cases h : k < as.length
    · rw [take_step _ _ _ _ h]; have := put_len ((as.take k).foldl (fun l a => put l a.1.text) []) as[k].1.text; omega
    · rw [List.take_of_length_le (by omega)] at ih ⊢; omega
theorem names_step (as : List Al) (k : Nat) (h : k < as.length) : names (as.take (k + 1)) = put (names (as.take k)) as[k].1.text := by
  unfold names; rw [take_step _ _ _ _ h]
theorem terms_step (as : List Al) (k : Nat) (h : k < as.length) : terms (as.take (k + 1)) = quotes (terms (as.take k)) as[k] := by
  unfold terms; rw [take_step _ _ _ _ h]
theorem quotes_step (l : List ByteArray) (ts : List Tk) (k : Nat) (h : k < ts.length) : (ts.take (k + 1)).foldl quote l = quote ((ts.take k).foldl quote l) ts[k] := take_step _ _ _ _ h
theorem quote_len (l : List ByteArray) (t : Tk) : (quote l t).length ≤ l.length + 1 := by
  unfold quote; split
  · exact put_len _ _
  · omega
theorem quotes_len (l : List ByteArray) (ts : List Tk) (k : Nat) : ((ts.take k).foldl quote l).length ≤ l.length + k := by
  induction k with
  | zero => simp
  | succ k ih =>
    by_cases h : k < ts.length
    · rw [take_step _ _ _ _ h]; have := quote_len ((ts.take k).foldl quote l) ts[k]; omega
    · rw [List.take_of_length_le (by omega)] at ih ⊢; omega
theorem terms_len (as : List Al) (h8 : ∀ a ∈ as, a.2.length ≤ 8) (k : Nat) : (terms (as.take k)).length ≤ k * 8 := by
  induction k with
  | zero => simp [terms]
  | succ k ih =>
    by_cases h : k < as.length
    · rw [terms_step _ _ h]
      have h1 := quotes_len (terms (as.take k)) as[k].2 as[k].2.length
      rw [List.take_length] at h1
      have h2 := h8 as[k] (List.getElem_mem h)
      unfold quotes; omega
    · rw [List.take_of_length_le (by omega)] at ih ⊢; omega

/-- the place of the first name that nothing defines -/
def undefT (ns : List ByteArray) : List Tk → Option Int
  | [] => none
  | t :: r => if t.kind = 1 ∧ has t.text ns = false then some t.pos else undefT ns r
def undef (ns : List ByteArray) : List Al → Option Int
  | [] => none
  | a :: r => (undefT ns a.2).or (undef ns r)

def sym (ts ns : List ByteArray) (t : Tk) : Int := if t.kind = 2 then pos t.text ts else ts.length + pos t.text ns
def rule (ts ns : List ByteArray) (a : Al) : Rl := (sym ts ns a.1, a.2.map (sym ts ns))
def rules (ts ns : List ByteArray) (as : List Al) : List Rl := as.foldl (fun l a => put l (rule ts ns a)) []

/-- the grammar of alternatives, or the error -/
def of (as : List Al) : Except Er Gm :=
  match undef (names as) as with
  | some p => .error (13, p)
  | none => if 40 < (names as).length ∨ 40 < (terms as).length then .error (14, 0) else .ok ⟨terms as, names as, rules (terms as) (names as) as⟩

theorem put_mem {α : Type} [DecidableEq α] {l : List α} {x y : α} (h : y ∈ put l x) : y ∈ l ∨ y = x := by
  unfold put at h
  split at h
  · exact .inl h
  · rcases List.mem_append.1 h with h | h
    · exact .inl h
    · exact .inr (by simpa using h)
theorem put_sub {α : Type} [DecidableEq α] {l : List α} {x y : α} (h : y ∈ l) : y ∈ put l x := by
  unfold put; split
  · exact h
  · exact List.mem_append_left _ h
theorem put_self {α : Type} [DecidableEq α] (l : List α) (x : α) : x ∈ put l x := by
  unfold put; split
  · assumption
  · simp
theorem names_mem (as : List Al) (s : ByteArray) (h : s ∈ names as) : ∃ a ∈ as, s = a.1.text := by
  have key : ∀ k, s ∈ names (as.take k) → ∃ a ∈ as, s = a.1.text := by
    intro k
    induction k with
    | zero => intro h; simp [names] at h
    | succ k ih =>
      intro h
      by_cases hk : k < as.length
      · rw [names_step _ _ hk] at h
        rcases put_mem h with h | h
        · exact ih h
        · exact ⟨_, List.getElem_mem hk, h⟩
      · rw [List.take_of_length_le (by omega)] at h ih; exact ih h
  exact key as.length (by rw [List.take_length]; exact h)
theorem quotes_mem (l : List ByteArray) (ts : List Tk) (s : ByteArray) (h : s ∈ ts.foldl quote l) : s ∈ l ∨ ∃ t ∈ ts, t.kind = 2 ∧ s = t.text := by
  induction ts generalizing l with
  | nil => exact .inl h
  | cons t r ih =>
    rw [List.foldl_cons] at h
    rcases ih _ h with h | ⟨u, hu, h⟩
    · unfold quote at h
      split at h
      · rcases put_mem h with h | h
        · exact .inl h
        · exact .inr ⟨t, List.mem_cons_self, by assumption, h⟩
      · exact .inl h
    · exact .inr ⟨u, List.mem_cons_of_mem _ hu, h⟩
theorem terms_mem (as : List Al) (s : ByteArray) (h : s ∈ terms as) : ∃ a ∈ as, ∃ t ∈ a.2, t.kind = 2 ∧ s = t.text := by
  have key : ∀ k, s ∈ terms (as.take k) → ∃ a ∈ as, ∃ t ∈ a.2, t.kind = 2 ∧ s = t.text := by
    intro k
    induction k with
    | zero => intro h; simp [terms] at h
    | succ k ih =>
      intro h
      by_cases hk : k < as.length
      · rw [terms_step _ _ hk] at h
        rcases quotes_mem _ _ _ h with h | ⟨t, ht, h⟩
        · exact ih h
        · exact ⟨_, List.getElem_mem hk, t, ht, h⟩
      · rw [List.take_of_length_le (by omega)] at h ih; exact ih h
  exact key as.length (by rw [List.take_length]; exact h)
theorem rules_step (ts ns : List ByteArray) (as : List Al) (k : Nat) (h : k < as.length) : rules ts ns (as.take (k + 1)) = put (rules ts ns (as.take k)) (rule ts ns as[k]) := by
  unfold rules; rw [take_step _ _ _ _ h]
theorem rules_len (ts ns : List ByteArray) (as : List Al) (k : Nat) : (rules ts ns (as.take k)).length ≤ k := by
  unfold rules
  induction k with
  | zero => simp
  | succ k ih =>
    by_cases h : k < as.length
    · rw [take_step _ _ _ _ h]; have := put_len ((as.take k).foldl (fun l a => put l (rule ts ns a)) []) (rule ts ns as[k]); omega
    · rw [List.take_of_length_le (by omega)] at ih ⊢; omega
theorem rules_mem (ts ns : List ByteArray) (as : List Al) (k : Nat) (r : Rl) (h : r ∈ rules ts ns (as.take k)) : ∃ a ∈ as.take k, r = rule ts ns a := by
  induction k with
  | zero => simp [rules] at h
  | succ k ih =>
    by_cases hk : k < as.length
    · rw [rules_step _ _ _ _ hk] at h
      rcases put_mem h with h | h
      · obtain ⟨a, ha, e⟩ := ih h
        exact ⟨a, (List.take_subset_take_left as (Nat.le_succ k)) ha, e⟩
      · refine ⟨as[k], ?_, h⟩
        rw [List.take_add_one, List.getElem?_eq_getElem hk]; exact List.mem_append_right _ (List.mem_singleton.2 rfl)
    · rw [List.take_of_length_le (by omega)] at h ih ⊢; exact ih h
theorem rules_right (ts ns : List ByteArray) (as : List Al) (h8 : ∀ a ∈ as, a.2.length ≤ 8) (k : Nat) : ∀ r ∈ rules ts ns (as.take k), r.2.length ≤ 8 := by
  intro r hr
  obtain ⟨a, ha, rfl⟩ := rules_mem _ _ _ _ _ hr
  have := h8 a (List.mem_of_mem_take ha)
  simpa [rule] using this

/-- the grammar of what the layers below tell: the error's number, where, the grammar -/
def ofG (t : Int × Int × List Tk) (n : Int) : Int × Int × Gm :=
  if t.1 ≠ 0 then (t.1, t.2.1, ⟨[], [], []⟩) else
  match altsG t.2.2 n with
  | (e, at', as) => if e ≠ 0 then (e, at', ⟨[], [], []⟩) else
    match of as with
    | .ok g => (0, 0, g)
    | .error er => (er.1, er.2, ⟨[], [], []⟩)

/-- how far numbers come in order -/
def comes : List Int → Int → Option Int
  | [], n => some n
  | x :: r, n => if n < x then none else comes r (if x = n then n + 1 else n)

/-- do all numbers from low up to high come, each behind those below it? -/
def inOrder (l : List Int) (low high : Int) : Bool := comes l low == some high

def isT (g : Gm) (s : Int) : Bool := decide (0 ≤ s ∧ s < g.terms.length)
def isN (g : Gm) (s : Int) : Bool := decide ((g.terms.length : Int) ≤ s ∧ s < (g.terms.length : Int) + g.names.length)
def fits (g : Gm) (r : Rl) : Bool := isN g r.1 && decide (r.2.length ≤ 8) && r.2.all (fun s => isT g s || isN g s)

/-- each one fits, none has come -/
def each {α : Type} [DecidableEq α] (p : α → Bool) (l : List α) : Bool := (List.range l.length).all (fun i => match l[i]? with | some x => p x && !has x (l.take i) | none => true)

def sizes (g : Gm) : Bool := decide (1 ≤ g.names.length ∧ g.names.length ≤ 40 ∧ g.terms.length ≤ 40 ∧ 1 ≤ g.rules.length ∧ g.rules.length ≤ 60)

/-- the terminals of right sides -/
def seen (g : Gm) : List Int := g.rules.flatMap (fun r => r.2.filter (isT g))

/-- may a grammar be? -/
def good (g : Gm) : Bool :=
  sizes g && each (fun s => Lx.isName s.data.toList) g.names && each (fun s => Lx.isTerm s.data.toList) g.terms && each (fits g) g.rules &&
  inOrder (g.rules.map (·.1)) g.terms.length ((g.terms.length : Int) + g.names.length) && inOrder (seen g) 0 g.terms.length

/-- a symbol's name -/
def name (g : Gm) (s : Int) : ByteArray × Bool :=
  if isT g s then (g.terms.getD s.toNat ⟨#[]⟩, true) else if isN g s then (g.names.getD (s - g.terms.length).toNat ⟨#[]⟩, true) else (⟨#[]⟩, false)
end Go.Proofs.Ytdocbgfpnaiijaa.Gr

namespace Go.Proofs.Ytdocbgfpnaiijaa.Gr

theorem each_fail {α : Type} [DecidableEq α] {p : α → Bool} {l : List α} (k : Nat) (h : k < l.length) (hf : (p l[k] && !has l[k] (l.take k)) = false) : each p l = false := by
  unfold each
  rw [List.all_eq_false]
  exact ⟨k, List.mem_range.2 h, by simp [List.getElem?_eq_getElem h, hf]⟩
theorem each_all {α : Type} [DecidableEq α] {p : α → Bool} {l : List α} (h : ∀ k (hk : k < l.length), (p l[k] && !has l[k] (l.take k)) = true) : each p l = true := by
  unfold each
  rw [List.all_eq_true]
  intro k hk
  have hk := List.mem_range.1 hk
  simp only [List.getElem?_eq_getElem hk]
  exact h k hk
theorem each_get {α : Type} [DecidableEq α] {p : α → Bool} {l : List α} (h : each p l = true) (k : Nat) (hk : k < l.length) : p l[k] = true ∧ l[k] ∉ l.take k := by
  unfold each at h
  rw [List.all_eq_true] at h
  have := h k (List.mem_range.2 hk)
  simp only [List.getElem?_eq_getElem hk, Bool.and_eq_true, Bool.not_eq_true'] at this
  exact ⟨this.1, has_no this.2⟩

theorem comes_large {x : Int} {r : List Int} {n : Int} (h : n < x) : comes (x :: r) n = none := by rw [comes, if_pos h]
theorem comes_next {x : Int} {r : List Int} {n : Int} (h : x = n) : comes (x :: r) n = comes r (n + 1) := by rw [comes, if_neg (by omega), if_pos h]
theorem comes_came {x : Int} {r : List Int} {n : Int} (h : ¬ n < x) (h2 : ¬ x = n) : comes (x :: r) n = comes r n := by rw [comes, if_neg h, if_neg h2]

theorem getD_at {α : Type} (l : List α) (i : Nat) (d : α) (h : i < l.length) : l.getD i d = l[i] := by simp [List.getD, List.getElem?_eq_getElem h]
theorem seen_step (p : Int → Bool) (rs : List Rl) (k : Nat) (h : k < rs.length) : (rs.take (k + 1)).flatMap (fun r => r.2.filter p) = (rs.take k).flatMap (fun r => r.2.filter p) ++ rs[k].2.filter p := by
  rw [List.take_add_one, List.getElem?_eq_getElem h, List.flatMap_append]; simp
theorem filter_step (p : Int → Bool) (xs : List Int) (k : Nat) (h : k < xs.length) : (xs.take (k + 1)).filter p = (xs.take k).filter p ++ (if p xs[k] then [xs[k]] else []) := by
  rw [List.take_add_one, List.getElem?_eq_getElem h, List.filter_append]
  show _ ++ List.filter p [xs[k]] = _
  rw [List.filter_cons]; split <;> rfl
theorem seen_len (p : Int → Bool) (rs : List Rl) (h8 : ∀ r ∈ rs, r.2.length ≤ 8) (k : Nat) : ((rs.take k).flatMap (fun r => r.2.filter p)).length ≤ k * 8 := by
  induction k with
  | zero => simp
  | succ k ih =>
    by_cases h : k < rs.length
    · rw [seen_step p rs k h, List.length_append]
      have h1 := List.length_filter_le p rs[k].2
      have h2 := h8 rs[k] (List.getElem_mem h)
      omega
    · rw [List.take_of_length_le (by omega)] at ih ⊢; omega
end Go.Proofs.Ytdocbgfpnaiijaa.Gr

namespace Go.Proofs.Ytdocbgfpnaiijaa.Rd

/-- an alternative of names and quotes, each as P says -/
def alP (P : Tk → Prop) (x : Al) : Prop := (x.1.kind = 1 ∧ P x.1) ∧ ∀ t ∈ x.2, (t.kind = 1 ∨ t.kind = 2) ∧ P t
def mdP (P : Tk → Prop) : Md → Prop
  | .start => True
  | .eq l => l.kind = 1 ∧ P l
  | .body l a => alP P (l, a)

theorem run_mem (P : Tk → Prop) {s s' : St} {ts : List Tk} (h : run s ts = .ok s') (hP : ∀ t ∈ ts, P t) (ha : ∀ x ∈ s.acc, alP P x) (hm : mdP P s.md) : (∀ x ∈ s'.acc, alP P x) ∧ mdP P s'.md := by
  induction ts generalizing s with
  | nil => rw [run] at h; cases h; exact ⟨ha, hm⟩
  | cons t r ih =>
    rw [run] at h
    cases hs : step s t with
    | error e => rw [hs] at h; cases h
    | ok s1 =>
      rw [hs] at h
      have hr : ∀ t ∈ r, P t := fun u hu => hP u (List.mem_cons_of_mem _ hu)
      have ht : P t := hP t List.mem_cons_self
      rcases step_ok hs with ⟨h1, h2, rfl⟩ | ⟨l, h1, h2, rfl⟩ | ⟨l, a, h1, h2, rfl⟩ | ⟨l, a, h1, h2, _, _, rfl⟩ | ⟨l, a, h1, h2, _, _, rfl⟩ <;> rw [h1] at hm
      · exact ih h hr ha ⟨h2, ht⟩
      · exact ih h hr ha ⟨hm, fun u hu => by simp at hu⟩
      · refine ih h hr ha ⟨hm.1, fun u hu => ?_⟩
        rcases List.mem_append.1 hu with hu | hu
        · exact hm.2 u hu
        · simp at hu; subst hu; exact ⟨h2, ht⟩
      · refine ih h hr (fun x hx => ?_) ⟨hm.1, fun u hu => by simp at hu⟩
        rcases List.mem_append.1 hx with hx | hx
        · exact ha x hx
        · simp at hx; subst hx; exact hm
      · refine ih h hr (fun x hx => ?_) trivial
        rcases List.mem_append.1 hx with hx | hx
        · exact ha x hx
        · simp at hx; subst hx; exact hm

theorem alts_mem (P : Tk → Prop) {ts : List Tk} {l : List Al} (h : run ⟨[], .start⟩ ts = .ok ⟨l, .start⟩) (hP : ∀ t ∈ ts, P t) : ∀ x ∈ l, alP P x :=
  (run_mem P h hP (fun x hx => by simp at hx) trivial).1
end Go.Proofs.Ytdocbgfpnaiijaa.Rd

namespace Go.Proofs.Ytdocbgfpnaiijaa.Gr

theorem each_inj {α : Type} [DecidableEq α] {p : α → Bool} {l : List α} (h : each p l = true) (i j : Nat) (hi : i < l.length) (hj : j < l.length) (e : l[i] = l[j]) : i = j := by
  have key : ∀ i j (hi : i < l.length) (hj : j < l.length), i < j → l[i] ≠ l[j] := by
    intro i j hi hj hij he
    have := (each_get h j hj).2
    rw [← he] at this
    exact this (List.mem_take_iff_getElem.2 ⟨i, by omega, rfl⟩)
  rcases Nat.lt_trichotomy i j with h1 | h1 | h1
  · exact absurd e (key i j hi hj h1)
  · exact h1
  · exact absurd e.symm (key j i hj hi h1)

theorem good_parts {g : Gm} (h : good g = true) : sizes g = true ∧ each (fun s => Lx.isName s.data.toList) g.names = true ∧ each (fun s => Lx.isTerm s.data.toList) g.terms = true ∧ each (fits g) g.rules = true ∧
    inOrder (g.rules.map (·.1)) g.terms.length ((g.terms.length : Int) + g.names.length) = true ∧ inOrder (seen g) 0 g.terms.length = true := by
  simp only [good, Bool.and_eq_true] at h
  obtain ⟨⟨⟨⟨⟨h1, h2⟩, h3⟩, h4⟩, h5⟩, h6⟩ := h
  exact ⟨h1, h2, h3, h4, h5, h6⟩

theorem name_ok (g : Gm) (s : Int) : (name g s).2 = (decide (0 ≤ s) && decide (s < (g.terms.length : Int) + g.names.length)) ∧ ((name g s).2 = false → (name g s).1 = ⟨#[]⟩) ∧ (isT g s = true → (name g s).2 = true) := by
  unfold name
  cases h1 : isT g s
  · cases h2 : isN g s
    · simp only [isT, isN, decide_eq_false_iff_not] at h1 h2
      refine ⟨?_, fun _ => rfl, fun h => by cases h⟩
      simp only [Bool.false_eq_true, if_false]
      rw [eq_comm, Bool.and_eq_false_iff, decide_eq_false_iff_not, decide_eq_false_iff_not]; omega
    · simp only [isT, isN, decide_eq_false_iff_not, decide_eq_true_eq] at h1 h2
      refine ⟨?_, fun h => by simp at h, fun h => by cases h⟩
      simp only [Bool.false_eq_true, if_false, if_true]
      rw [eq_comm, Bool.and_eq_true, decide_eq_true_eq, decide_eq_true_eq]; omega
  · simp only [isT, decide_eq_true_eq] at h1
    refine ⟨?_, fun h => by simp at h, fun _ => rfl⟩
    simp only [if_true]
    rw [eq_comm, Bool.and_eq_true, decide_eq_true_eq, decide_eq_true_eq]; omega

theorem name_inj {g : Gm} (h : good g = true) {s t : Int} {x : ByteArray} (hs : name g s = (x, true)) (ht : name g t = (x, true)) (hne : s ≠ t) : (isT g s == isT g t) = false := by
  obtain ⟨_, h2, h3, _⟩ := good_parts h
  rw [beq_eq_false_iff_ne]
  intro e
  unfold name at hs ht
  cases h1 : isT g s
  · rw [h1] at e hs
    rw [← e] at ht
    simp only [Bool.false_eq_true, if_false] at hs ht
    cases h4 : isN g s
    · rw [h4] at hs; simp at hs
    · cases h5 : isN g t
      · rw [h5] at ht; simp at ht
      · rw [h4] at hs
        rw [h5] at ht
        simp only [if_true, Prod.mk.injEq, and_true] at hs ht
        simp only [isN, decide_eq_true_eq] at h4 h5
        have i1 : (s - g.terms.length).toNat < g.names.length := by omega
        have i2 : (t - g.terms.length).toNat < g.names.length := by omega
        rw [getD_at _ _ _ i1] at hs
        rw [getD_at _ _ _ i2] at ht
        have := each_inj h2 _ _ i1 i2 (hs.trans ht.symm)
        omega
  · rw [h1] at e hs
    rw [← e] at ht
    simp only [if_true, Prod.mk.injEq, and_true] at hs ht
    have h5 : isT g t = true := e.symm
    simp only [isT, decide_eq_true_eq] at h1 h5
    have i1 : s.toNat < g.terms.length := by omega
    have i2 : t.toNat < g.terms.length := by omega
    rw [getD_at _ _ _ i1] at hs
    rw [getD_at _ _ _ i2] at ht
    have := each_inj h3 _ _ i1 i2 (hs.trans ht.symm)
    omega
end Go.Proofs.Ytdocbgfpnaiijaa.Gr

namespace Go.Proofs.Ytdocbgfpnaiijaa.Rd

/-- another token of the same kind -/
def mvAl (f : Tk → Tk) (x : Al) : Al := (f x.1, x.2.map f)
def mvMd (f : Tk → Tk) : Md → Md
  | .start => .start
  | .eq l => .eq (f l)
  | .body l a => .body (f l) (a.map f)
def mvSt (f : Tk → Tk) (s : St) : St := ⟨s.acc.map (mvAl f), mvMd f s.md⟩

theorem step_mv (f : Tk → Tk) (hf : ∀ t, (f t).kind = t.kind) (s : St) (t : Tk) :
    (∀ s', step s t = .ok s' → step (mvSt f s) (f t) = .ok (mvSt f s')) := by
  intro s' h
  rcases step_ok h with ⟨h1, h2, rfl⟩ | ⟨l, h1, h2, rfl⟩ | ⟨l, a, h1, h2, rfl⟩ | ⟨l, a, h1, h2, h3, h4, rfl⟩ | ⟨l, a, h1, h2, h3, h4, rfl⟩
  · rw [show mvSt f s = ⟨s.acc.map (mvAl f), .start⟩ from by rw [mvSt, h1]; rfl, step_name (by rw [hf, h2])]; rfl
  · rw [show mvSt f s = ⟨s.acc.map (mvAl f), .eq (f l)⟩ from by rw [mvSt, h1]; rfl, step_is (by rw [hf, h2])]; rfl
  · rw [show mvSt f s = ⟨s.acc.map (mvAl f), .body (f l) (a.map f)⟩ from by rw [mvSt, h1]; rfl, step_sym (by rw [hf]; exact h2)]; simp [mvSt, mvMd]
  · rw [show mvSt f s = ⟨s.acc.map (mvAl f), .body (f l) (a.map f)⟩ from by rw [mvSt, h1]; rfl, step_bar (by rw [hf, h2]) (by rw [List.length_map, List.length_map]; omega)]; simp [mvSt, mvMd, mvAl]
  · rw [show mvSt f s = ⟨s.acc.map (mvAl f), .body (f l) (a.map f)⟩ from by rw [mvSt, h1]; rfl, step_end (by rw [hf, h2]) (by rw [List.length_map, List.length_map]; omega)]; simp [mvSt, mvMd, mvAl]

theorem run_mv (f : Tk → Tk) (hf : ∀ t, (f t).kind = t.kind) : ∀ (ts : List Tk) (s s' : St), run s ts = .ok s' → run (mvSt f s) (ts.map f) = .ok (mvSt f s')
  | [], s, s', h => by rw [run] at h; cases h; rfl
  | t :: r, s, s', h => by
    rw [run] at h
    cases hs : step s t with
    | error e => rw [hs] at h; cases h
    | ok s1 =>
      rw [hs] at h
      rw [List.map_cons, run, step_mv f hf s t s1 hs]
      exact run_mv f hf r s1 s' h

/-- tokens that make no alternatives make none when written twice -/
theorem alts_twice_err (f : Tk → Tk) (hf : ∀ t, (f t).kind = t.kind) {ts : List Tk} {en en' : Int} {e : Er} (h : alts ts en = .error e) : ∃ e', alts (ts ++ ts.map f) en' = .error e' := by
  have fail : ∀ {s ts}, (∃ e, run s ts = .error e) → ∃ e', whole en' s ts = .error e' := fun ⟨e, h⟩ => ⟨e, by unfold whole; rw [h]⟩
  unfold alts
  cases hr : run ⟨[], .start⟩ ts with
  | error e1 => exact fail ⟨e1, by rw [run_append, hr]⟩
  | ok s1 =>
    have hw : whole en' ⟨[], .start⟩ (ts ++ ts.map f) = whole en' s1 (ts.map f) := by unfold whole; rw [run_append, hr]
    rw [hw]
    unfold alts whole at h
    rw [hr] at h
    simp only at h
    obtain ⟨acc, md⟩ := s1
    cases ts with
    | nil => rw [run] at hr; cases hr; exact ⟨_, rfl⟩
    | cons t r =>
      have ht : t.kind = 1 := by
        by_cases k : t.kind = 1
        · exact k
        · rw [run, step_noname k] at hr; cases hr
      rw [run, step_name ht] at hr
      simp only at hr
      cases md with
      | start =>
        rcases fin_cases en ⟨acc, .start⟩ with ⟨_, h2⟩ | ⟨h1, _⟩
        · have h3 := h2 rfl
          simp only at h3
          subst h3
          have hr' : run ⟨[], .start⟩ (t :: r) = .ok ⟨[], .start⟩ := by rw [run, step_name ht]; exact hr
          rcases run_start hr' rfl with hh | hh
          · cases hh
          · simp at hh
        · rw [h1] at h; cases h
      | eq l => exact fail ⟨_, by rw [List.map_cons, run, step_nois (by rw [hf, ht]; decide)]⟩
      | body l a =>
        cases r with
        | nil => rw [run] at hr; cases hr
        | cons u v =>
          have hu : u.kind = 3 := by
            by_cases k : u.kind = 3
            · exact k
            · rw [run, step_nois k] at hr; cases hr
          refine fail ⟨(12, (f u).pos), ?_⟩
          rw [List.map_cons, run, step_sym (by rw [hf, ht]; exact .inl rfl)]
          show run ⟨acc, .body l (a ++ [f t])⟩ (List.map f (u :: v)) = _
          rw [List.map_cons, run, step_other (by rw [hf, hu]; decide) (by rw [hf, hu]; decide)]

/-- tokens that make alternatives make them twice, or too many -/
theorem alts_twice_ok (f : Tk → Tk) (hf : ∀ t, (f t).kind = t.kind) {ts : List Tk} {en' : Int} {as : List Al} (h : run ⟨[], .start⟩ ts = .ok ⟨as, .start⟩) (ha : as ≠ []) :
    (2 * as.length ≤ 60 ∧ altsG (ts ++ ts.map f) en' = (0, 0, as ++ as.map (mvAl f))) ∨ (60 < 2 * as.length ∧ ∃ p, altsG (ts ++ ts.map f) en' = (14, p, [])) := by
  have h2 : run ⟨[], .start⟩ (ts.map f) = .ok ⟨as.map (mvAl f), .start⟩ := run_mv f hf ts _ _ h
  have hne : ts.map f ≠ [] := by
    intro e
    have : ts = [] := List.map_eq_nil_iff.1 e
    subst this
    rw [run] at h; cases h; exact ha rfl
  have h3 : alts (ts.map f) en' = .ok (as.map (mvAl f)) := by
    unfold alts whole; rw [h2]; simp [fin, ha]
  rcases (alts_append (en := en') h ha hne).1 _ h3 with h4 | ⟨⟨p, h4⟩, h5⟩
  · have := (altsG_small (altsG_ok h4)).1
    rw [List.length_append, List.length_map] at this
    exact .inl ⟨by omega, altsG_ok h4⟩
  · rw [List.length_map] at h5
    exact .inr ⟨by omega, p, altsG_err h4⟩
end Go.Proofs.Ytdocbgfpnaiijaa.Rd

namespace Go.Proofs.Ytdocbgfpnaiijaa.Gr
open Go.Proofs.Ytdocbgfpnaiijaa.Rd

theorem foldl_put_in {α β : Type} [DecidableEq β] (g : α → β) : ∀ (xs : List α) (l : List β), (∀ x ∈ xs, g x ∈ l) → xs.foldl (fun l x => put l (g x)) l = l
  | [], l, _ => rfl
  | x :: r, l, h => by
    rw [List.foldl_cons, put_in (h x List.mem_cons_self)]
    exact foldl_put_in g r l (fun y hy => h y (List.mem_cons_of_mem _ hy))
theorem foldl_put_sub {α β : Type} [DecidableEq β] (g : α → β) : ∀ (xs : List α) (l : List β), (∀ y ∈ l, y ∈ xs.foldl (fun l x => put l (g x)) l) ∧ ∀ x ∈ xs, g x ∈ xs.foldl (fun l x => put l (g x)) l
  | [], l => ⟨fun y h => h, fun x h => by simp at h⟩
  | x :: r, l => by
    obtain ⟨h1, h2⟩ := foldl_put_sub g r (put l (g x))
    refine ⟨fun y h => h1 y (put_sub h), fun y h => ?_⟩
    rcases List.mem_cons.1 h with rfl | h
    · exact h1 _ (put_self _ _)
    · exact h2 y h

theorem quote_sub {l : List ByteArray} {t : Tk} {y : ByteArray} (h : y ∈ l) : y ∈ quote l t := by unfold quote; split; exact put_sub h; exact h
theorem quotes_sub : ∀ (ts : List Tk) (l : List ByteArray), (∀ y ∈ l, y ∈ ts.foldl quote l) ∧ ∀ t ∈ ts, t.kind = 2 → t.text ∈ ts.foldl quote l
  | [], l => ⟨fun y h => h, fun x h => by simp at h⟩
  | t :: r, l => by
    obtain ⟨h1, h2⟩ := quotes_sub r (quote l t)
    refine ⟨fun y h => h1 y (quote_sub h), fun u h hk => ?_⟩
    rcases List.mem_cons.1 h with rfl | h
    · refine h1 _ ?_
      unfold quote; rw [if_pos hk]; exact put_self _ _
    · exact h2 u h hk
theorem quotes_in : ∀ (ts : List Tk) (l : List ByteArray), (∀ t ∈ ts, t.kind = 2 → t.text ∈ l) → ts.foldl quote l = l
  | [], l, _ => rfl
  | t :: r, l, h => by
    have e : quote l t = l := by
      unfold quote
      by_cases k : t.kind = 2
      · rw [if_pos k, put_in (h t List.mem_cons_self k)]
      · rw [if_neg k]
    rw [List.foldl_cons, e]
    exact quotes_in r l (fun u hu => h u (List.mem_cons_of_mem _ hu))
theorem terms_sub : ∀ (as : List Al) (l : List ByteArray), (∀ y ∈ l, y ∈ as.foldl quotes l) ∧ ∀ a ∈ as, ∀ t ∈ a.2, t.kind = 2 → t.text ∈ as.foldl quotes l
  | [], l => ⟨fun y h => h, fun x h => by simp at h⟩
  | a :: r, l => by
    obtain ⟨h1, h2⟩ := terms_sub r (quotes l a)
    obtain ⟨q1, q2⟩ := quotes_sub a.2 l
    refine ⟨fun y h => h1 y (q1 y h), fun u h => ?_⟩
    rcases List.mem_cons.1 h with rfl | h
    · exact fun t ht hk => h1 _ (q2 t ht hk)
    · exact h2 u h
theorem terms_in : ∀ (as : List Al) (l : List ByteArray), (∀ a ∈ as, ∀ t ∈ a.2, t.kind = 2 → t.text ∈ l) → as.foldl quotes l = l
  | [], l, _ => rfl
  | a :: r, l, h => by
    rw [List.foldl_cons, show quotes l a = l from quotes_in a.2 l (h a List.mem_cons_self)]
    exact terms_in r l (fun b hb => h b (List.mem_cons_of_mem _ hb))

theorem undefT_mv (f : Tk → Tk) (hk : ∀ t, (f t).kind = t.kind) (hx : ∀ t, (f t).text = t.text) (ns : List ByteArray) : ∀ ts : List Tk, undefT ns ts = none → undefT ns (ts.map f) = none
  | [], _ => rfl
  | t :: r, h => by
    rw [undefT] at h
    rw [List.map_cons, undefT, hk, hx]
    split at h
    · cases h
    · rename_i hc
      rw [if_neg hc]; exact undefT_mv f hk hx ns r h
theorem undef_twice (f : Tk → Tk) (hk : ∀ t, (f t).kind = t.kind) (hx : ∀ t, (f t).text = t.text) (ns : List ByteArray) (as : List Al) : undef ns (as ++ as.map (mvAl f)) = undef ns as := by
  have app : ∀ xs ys : List Al, undef ns (xs ++ ys) = (undef ns xs).or (undef ns ys) := by
    intro xs ys
    induction xs with
    | nil => rfl
    | cons x r ih => rw [List.cons_append, undef, undef, ih, Option.or_assoc]
  have non : ∀ xs : List Al, undef ns xs = none → undef ns (xs.map (mvAl f)) = none := by
    intro xs
    induction xs with
    | nil => exact fun _ => rfl
    | cons x r ih =>
      intro h
      rw [undef] at h
      obtain ⟨h1, h2⟩ := Option.or_eq_none_iff.1 h
      rw [List.map_cons, undef, show (mvAl f x).2 = x.2.map f from rfl, undefT_mv f hk hx ns _ h1, ih h2]; rfl
  rw [app]
  cases h : undef ns as with
  | none => rw [non as h]; rfl
  | some p => rfl

theorem of_twice (f : Tk → Tk) (hk : ∀ t, (f t).kind = t.kind) (hx : ∀ t, (f t).text = t.text) (as : List Al) : of (as ++ as.map (mvAl f)) = of as := by
  have hn : names (as ++ as.map (mvAl f)) = names as := by
    unfold names
    rw [List.foldl_append]
    refine foldl_put_in (fun a : Al => a.1.text) _ _ (fun x h => ?_)
    obtain ⟨a, ha, rfl⟩ := List.mem_map.1 h
    rw [show (mvAl f a).1.text = a.1.text from hx _]
    exact (foldl_put_sub (fun a : Al => a.1.text) as []).2 a ha
  have ht : terms (as ++ as.map (mvAl f)) = terms as := by
    unfold terms
    rw [List.foldl_append]
    refine terms_in _ _ (fun x h t htx hk2 => ?_)
    obtain ⟨a, ha, rfl⟩ := List.mem_map.1 h
    obtain ⟨u, hu, rfl⟩ := List.mem_map.1 (show t ∈ a.2.map f from htx)
    rw [hk] at hk2
    rw [hx]
    exact (terms_sub as []).2 a ha u hu hk2
  have hs : ∀ ts ns t, sym ts ns (f t) = sym ts ns t := fun ts ns t => by unfold sym; rw [hk, hx]
  have hr : ∀ ts ns, rules ts ns (as ++ as.map (mvAl f)) = rules ts ns as := by
    intro ts ns
    unfold rules
    rw [List.foldl_append]
    refine foldl_put_in (fun a : Al => rule ts ns a) _ _ (fun x h => ?_)
    obtain ⟨a, ha, rfl⟩ := List.mem_map.1 h
    have e : rule ts ns (mvAl f a) = rule ts ns a := by
      unfold rule mvAl
      simp only [hs, List.map_map]
      congr 1
      exact List.map_congr_left (fun t _ => hs ts ns t)
    show rule ts ns (mvAl f a) ∈ _
    rw [e]
    exact (foldl_put_sub (fun a : Al => rule ts ns a) as []).2 a ha
  unfold of
  rw [hn, ht, undef_twice f hk hx, hr]
end Go.Proofs.Ytdocbgfpnaiijaa.Gr

namespace Go.Proofs.Ytdocbgfpnaiijaa.Gr
open Go.Proofs.Ytdocbgfpnaiijaa.Rd

theorem each_of {α : Type} [DecidableEq α] {p : α → Bool} {l : List α} (hn : l.Nodup) (hp : ∀ x ∈ l, p x = true) : each p l = true := by
  refine each_all (fun k hk => ?_)
  rw [hp _ (List.getElem_mem hk), has_not ?_]; rfl
  intro h
  obtain ⟨i, hi, e⟩ := List.mem_take_iff_getElem.1 h
  have hil : i < l.length := by omega
  exact List.pairwise_iff_getElem.1 hn i k hil hk (by omega) e

theorem put_nodup {α : Type} [DecidableEq α] {l : List α} {x : α} (h : l.Nodup) : (put l x).Nodup := by
  unfold put; split
  · exact h
  · rename_i hx
    rw [List.nodup_append]
    refine ⟨h, by simp, fun a ha b hb => ?_⟩
    simp at hb; subst hb
    intro e; subst e; exact hx ha
theorem put_pre {α : Type} [DecidableEq α] (l : List α) (x : α) : l <+: put l x := by
  unfold put; split
  · exact List.prefix_refl _
  · exact List.prefix_append _ _
theorem fold_nodup {α β : Type} [DecidableEq β] (g : α → β) : ∀ (xs : List α) (l : List β), l.Nodup → (xs.foldl (fun l x => put l (g x)) l).Nodup
  | [], _, h => h
  | _ :: r, _, h => fold_nodup g r _ (put_nodup h)
theorem fold_pre {α β : Type} (f : β → α → β) (P : β → β → Prop) (hr : ∀ l, P l l) (ht : ∀ a b c, P a b → P b c → P a c) (hs : ∀ l x, P l (f l x)) : ∀ (xs : List α) (l : β), P l (xs.foldl f l)
  | [], l => hr l
  | x :: r, l => ht _ _ _ (hs l x) (fold_pre f P hr ht hs r (f l x))

theorem quote_pre (l : List ByteArray) (t : Tk) : l <+: quote l t := by
  unfold quote; split
  · exact put_pre _ _
  · exact List.prefix_refl _
theorem quotesF_pre (ts : List Tk) (l : List ByteArray) : l <+: ts.foldl quote l :=
  fold_pre quote (· <+: ·) (fun _ => List.prefix_refl _) (fun _ _ _ h1 h2 => h1.trans h2) quote_pre ts l
theorem termsF_pre (az : List Al) (l : List ByteArray) : l <+: az.foldl quotes l :=
  fold_pre quotes (· <+: ·) (fun _ => List.prefix_refl _) (fun _ _ _ h1 h2 => h1.trans h2) (fun l a => quotesF_pre a.2 l) az l
theorem namesF_pre (az : List Al) (l : List ByteArray) : l <+: az.foldl (fun l a => put l a.1.text) l :=
  fold_pre _ (· <+: ·) (fun _ => List.prefix_refl _) (fun _ _ _ h1 h2 => h1.trans h2) (fun l a => put_pre l a.1.text) az l

theorem names_pre (xs : List Al) (k : Nat) : names (xs.take k) <+: names xs := by
  have e : names xs = (xs.drop k).foldl (fun l a => put l a.1.text) (names (xs.take k)) := by
    unfold names; rw [← List.foldl_append, List.take_append_drop]
  rw [e]; exact namesF_pre _ _
theorem terms_pre (xs : List Al) (k : Nat) : terms (xs.take k) <+: terms xs := by
  have e : terms xs = (xs.drop k).foldl quotes (terms (xs.take k)) := by
    unfold terms; rw [← List.foldl_append, List.take_append_drop]
  rw [e]; exact termsF_pre _ _
theorem quotes_pre (xs : List Al) (k : Nat) (hk : k < xs.length) (j : Nat) : (xs[k].2.take j).foldl quote (terms (xs.take k)) <+: terms xs := by
  refine List.IsPrefix.trans ?_ (terms_pre xs (k + 1))
  rw [terms_step xs k hk]
  have e : quotes (terms (xs.take k)) xs[k] = (xs[k].2.drop j).foldl quote ((xs[k].2.take j).foldl quote (terms (xs.take k))) := by
    unfold quotes; rw [← List.foldl_append, List.take_append_drop]
  rw [e]; exact quotesF_pre _ _

theorem terms_nodup (xs : List Al) : (terms xs).Nodup := by
  have hq : ∀ (ts : List Tk) (l : List ByteArray), l.Nodup → (ts.foldl quote l).Nodup := by
    intro ts
    induction ts with
    | nil => exact fun _ h => h
    | cons t r ih =>
      intro l h
      refine ih _ ?_
      unfold quote; split
      · exact put_nodup h
      · exact h
  have : ∀ (az : List Al) (l : List ByteArray), l.Nodup → (az.foldl quotes l).Nodup := by
    intro az
    induction az with
    | nil => exact fun _ h => h
    | cons a r ih => exact fun l h => ih _ (hq _ _ h)
  exact this xs [] List.nodup_nil

theorem pos_pre {α : Type} [DecidableEq α] {x : α} {l m : List α} (h : l <+: m) (hx : x ∈ l) : pos x m = pos x l := by
  obtain ⟨u, rfl⟩ := h
  induction l with
  | nil => simp at hx
  | cons y r ih =>
    rw [List.cons_append, pos, pos]
    by_cases e : x = y
    · rw [if_pos e, if_pos e]
    · rw [if_neg e, if_neg e, ih (by rcases List.mem_cons.1 hx with h | h; exact absurd h e; exact h)]
theorem pos_end {α : Type} [DecidableEq α] {x : α} {l m : List α} (h : l ++ [x] <+: m) (hx : x ∉ l) : pos x m = l.length := by
  rw [pos_pre h (by simp)]
  clear h
  induction l with
  | nil => simp [pos]
  | cons y r ih =>
    have hxy : ¬ x = y := fun e => hx (by rw [e]; exact List.mem_cons_self)
    have hr := ih (fun h => hx (List.mem_cons_of_mem _ h))
    rw [List.cons_append, pos, if_neg hxy, hr, List.length_cons, if_neg (by omega)]
    omega
theorem pos_lt {α : Type} [DecidableEq α] {x : α} {l : List α} (h : x ∈ l) : 0 ≤ pos x l ∧ pos x l < l.length := by
  obtain ⟨k, hk, e, _⟩ := pos_mem h
  omega

theorem comes_append (l m : List Int) (n : Int) : comes (l ++ m) n = (comes l n).bind (comes m) := by
  induction l generalizing n with
  | nil => rfl
  | cons x r ih =>
    rw [List.cons_append, comes, comes]
    by_cases h : n < x
    · rw [if_pos h, if_pos h]; rfl
    · rw [if_neg h, if_neg h]; exact ih _

/-- one more, new or come -/
theorem comes_one {L : List Int} {lo n y : Int} (h : comes L lo = some n) (hy : y ≤ n) : comes (L ++ [y]) lo = some (if y = n then n + 1 else n) := by
  rw [comes_append, h]
  show comes [y] n = _
  rw [comes, if_neg (by omega)]; rfl

/-- what the tokens of the text are -/
def tkGood (t : Tk) : Prop := (t.kind = 1 → Lx.isName t.text.data.toList = true) ∧ (t.kind = 2 → Lx.isTerm t.text.data.toList = true)

theorem name_in {xs : List Al} (k : Nat) (a : Al) (ha : a ∈ xs.take k) : a.1.text ∈ names (xs.take k) := (foldl_put_sub (fun a : Al => a.1.text) (xs.take k) []).2 a ha

/-- a symbol of a right side, where all is defined -/
theorem sym_term {xs : List Al} {N : List ByteArray} {t : Tk} (h : t.kind = 2) : sym (terms xs) N t = pos t.text (terms xs) := by unfold sym; rw [if_pos h]

theorem right_in {xs : List Al} (k : Nat) (a : Al) (ha : a ∈ xs.take k) (t : Tk) (ht : t ∈ a.2) (h2 : t.kind = 2) : t.text ∈ terms (xs.take k) := (terms_sub (xs.take k) []).2 a ha t ht h2

/-- is a number a terminal's? -/
def isTn (n : Nat) (s : Int) : Bool := decide (0 ≤ s ∧ s < n)


theorem left_sym {xs : List Al} (hx : ∀ x ∈ xs, alP tkGood x) (T N : List ByteArray) (a : Al) (ha : a ∈ xs) : (rule T N a).1 = (T.length : Int) + pos a.1.text N := by
  have := (hx a ha).1.1
  unfold rule sym
  rw [if_neg (by rw [this]; decide)]

/-- left sides come in order -/
theorem lefts_come {xs : List Al} (hx : ∀ x ∈ xs, alP tkGood x) (T : List ByteArray) (k : Nat) (hk : k ≤ xs.length) : comes ((rules T (names xs) (xs.take k)).map (·.1)) T.length = some ((T.length : Int) + (names (xs.take k)).length) := by
  induction k with
  | zero => simp [rules, names, comes]
  | succ k ih =>
    have hlt : k < xs.length := by omega
    have ih := ih (by omega)
    have hl := left_sym hx T (names xs) xs[k] (List.getElem_mem hlt)
    have hpre := names_pre xs (k + 1)
    rw [rules_step _ _ _ _ hlt, names_step _ _ hlt]
    rw [names_step _ _ hlt] at hpre
    by_cases hin : xs[k].1.text ∈ names (xs.take k)
    · have hp := pos_lt hin
      rw [← pos_pre (names_pre xs k) hin] at hp
      rw [put_in hin]
      unfold put
      split
      · exact ih
      · rw [List.map_append, List.map_cons, List.map_nil, comes_one ih (by rw [hl]; omega), if_neg (by rw [hl]; omega)]
    · rw [put_new hin] at hpre ⊢
      have hp := pos_end hpre hin
      have hnew : rule T (names xs) xs[k] ∉ rules T (names xs) (xs.take k) := by
        intro h
        obtain ⟨a, ha, e⟩ := rules_mem _ _ _ _ _ h
        have hl2 := left_sym hx T (names xs) a (List.mem_of_mem_take ha)
        have hia := name_in k a ha
        have h3 := pos_lt hia
        rw [← pos_pre (names_pre xs k) hia] at h3
        rw [e] at hl
        rw [hl2] at hl
        omega
      rw [put_new hnew, List.map_append, List.map_cons, List.map_nil, comes_one ih (by rw [hl]; omega), if_pos (by rw [hl, hp]), List.length_append]
      simp; omega

theorem quotes_come {xs : List Al} (hx : ∀ x ∈ xs, alP tkGood x) (N : List ByteArray) (hN : ∀ x ∈ xs, ∀ t ∈ x.2, t.kind = 1 → t.text ∈ N) (k : Nat) (hk : k < xs.length) (L : List Int) (hL : comes L 0 = some (((terms (xs.take k)).length : Nat) : Int)) (j : Nat) (hj : j ≤ xs[k].2.length) :
    comes (L ++ ((xs[k].2.take j).map (sym (terms xs) N)).filter (isTn (terms xs).length)) 0 = some ((((xs[k].2.take j).foldl quote (terms (xs.take k))).length : Nat) : Int) := by
  induction j with
  | zero => simpa using hL
  | succ j ih =>
    have hlt : j < xs[k].2.length := by omega
    have ih := ih (by omega)
    have hpre := quotes_pre xs k hk (j + 1)
    have hpre0 := quotes_pre xs k hk j
    rw [quotes_step _ _ _ hlt] at hpre ⊢
    have e : ((xs[k].2.take (j + 1)).map (sym (terms xs) N)).filter (isTn (terms xs).length) = ((xs[k].2.take j).map (sym (terms xs) N)).filter (isTn (terms xs).length) ++ [sym (terms xs) N xs[k].2[j]].filter (isTn (terms xs).length) := by
      rw [List.take_add_one, List.getElem?_eq_getElem hlt, List.map_append, List.filter_append]; rfl
    rw [e, ← List.append_assoc]
    have hkind := ((hx xs[k] (List.getElem_mem hk)).2 xs[k].2[j] (List.getElem_mem hlt)).1
    by_cases h2 : xs[k].2[j].kind = 2
    · rw [sym_term h2]
      have hq : quote ((xs[k].2.take j).foldl quote (terms (xs.take k))) xs[k].2[j] = put ((xs[k].2.take j).foldl quote (terms (xs.take k))) xs[k].2[j].text := by unfold quote; rw [if_pos h2]
      rw [hq] at hpre ⊢
      generalize (xs[k].2.take j).foldl quote (terms (xs.take k)) = cur at *
      generalize xs[k].2[j].text = x at *
      have hlen : cur.length ≤ (terms xs).length := hpre0.length_le
      by_cases hin : x ∈ cur
      · have hp := pos_lt hin
        rw [← pos_pre hpre0 hin] at hp
        have ht : isTn (terms xs).length (pos x (terms xs)) = true := by unfold isTn; rw [decide_eq_true_eq]; omega
        rw [put_in hin, List.filter_cons, if_pos ht, List.filter_nil, comes_one ih (by omega), if_neg (by omega)]
      · rw [put_new hin] at hpre ⊢
        have hp := pos_end hpre hin
        have hlen2 := hpre.length_le
        rw [List.length_append, List.length_singleton] at hlen2
        have ht : isTn (terms xs).length (pos x (terms xs)) = true := by unfold isTn; rw [decide_eq_true_eq]; omega
        rw [List.filter_cons, if_pos ht, List.filter_nil, comes_one ih (by omega), if_pos hp, List.length_append]
        simp
    · have h1 : xs[k].2[j].kind = 1 := by omega
      have hq : quote ((xs[k].2.take j).foldl quote (terms (xs.take k))) xs[k].2[j] = (xs[k].2.take j).foldl quote (terms (xs.take k)) := by unfold quote; rw [if_neg h2]
      have hs : sym (terms xs) N xs[k].2[j] = ((terms xs).length : Int) + pos xs[k].2[j].text N := by unfold sym; rw [if_neg h2]
      have hp := pos_lt (hN xs[k] (List.getElem_mem hk) _ (List.getElem_mem hlt) h1)
      have ht : isTn (terms xs).length (sym (terms xs) N xs[k].2[j]) = false := by unfold isTn; rw [hs, decide_eq_false_iff_not]; omega
      rw [hq, List.filter_cons, if_neg (by rw [ht]; decide), List.filter_nil, List.append_nil]
      exact ih

/-- terminals come in order -/
theorem terms_come {xs : List Al} (hx : ∀ x ∈ xs, alP tkGood x) (N : List ByteArray) (hN : ∀ x ∈ xs, ∀ t ∈ x.2, t.kind = 1 → t.text ∈ N) (k : Nat) (hk : k ≤ xs.length) :
    comes ((rules (terms xs) N (xs.take k)).flatMap (fun r => r.2.filter (isTn (terms xs).length))) 0 = some (((terms (xs.take k)).length : Nat) : Int) := by
  induction k with
  | zero => simp [rules, terms, comes]
  | succ k ih =>
    have hlt : k < xs.length := by omega
    have ih := ih (by omega)
    rw [rules_step _ _ _ _ hlt, terms_step _ _ hlt]
    by_cases hin : rule (terms xs) N xs[k] ∈ rules (terms xs) N (xs.take k)
    · rw [put_in hin]
      have hsame : quotes (terms (xs.take k)) xs[k] = terms (xs.take k) := by
        refine quotes_in _ _ (fun t ht h2 => ?_)
        obtain ⟨a, ha, e⟩ := rules_mem _ _ _ _ _ hin
        have e2 : xs[k].2.map (sym (terms xs) N) = a.2.map (sym (terms xs) N) := congrArg Prod.snd e
        have hm : sym (terms xs) N t ∈ a.2.map (sym (terms xs) N) := by rw [← e2]; exact List.mem_map_of_mem ht
        obtain ⟨u, hu, eu⟩ := List.mem_map.1 hm
        have hax := List.mem_of_mem_take ha
        have htT : t.text ∈ terms xs := (terms_sub xs []).2 _ (List.getElem_mem hlt) t ht h2
        have hp := pos_lt htT
        have hku := ((hx a hax).2 u hu).1
        rw [sym_term h2] at eu
        have hu2 : u.kind = 2 := by
          by_cases k2 : u.kind = 2
          · exact k2
          · have h1 : u.kind = 1 := by omega
            have hq := pos_lt (hN a hax u hu h1)
            have hs : sym (terms xs) N u = ((terms xs).length : Int) + pos u.text N := by unfold sym; rw [if_neg k2]
            omega
        rw [sym_term hu2] at eu
        obtain ⟨i, hi, e3, e4⟩ := pos_mem htT
        have e5 := pos_get u.text (terms xs) i hi (eu.trans e3)
        rw [← e4, e5]
        exact right_in k a ha u hu hu2
      rw [hsame]; exact ih
    · rw [put_new hin, List.flatMap_append]
      have := quotes_come hx N hN k hlt _ ih xs[k].2.length (Nat.le_refl _)
      rw [List.take_length] at this
      unfold quotes
      simpa [rule] using this

/-- what is read may be -/
theorem good_of {xs : List Al} (hx : ∀ x ∈ xs, alP tkGood x) (hne : xs ≠ []) (h60 : xs.length ≤ 60) (h8 : ∀ x ∈ xs, x.2.length ≤ 8) {g : Gm} (h : of xs = .ok g) : good g = true := by
  unfold of at h
  split at h
  · cases h
  · rename_i hu
    split at h
    · cases h
    · rename_i hbig
      cases h
      have hN : ∀ x ∈ xs, ∀ t ∈ x.2, t.kind = 1 → t.text ∈ names xs := by
        have hT : ∀ ts : List Tk, undefT (names xs) ts = none → ∀ t ∈ ts, t.kind = 1 → t.text ∈ names xs := by
          intro ts
          induction ts with
          | nil => exact fun _ t ht => by simp at ht
          | cons u r ih =>
            intro hh t ht hk
            rw [undefT] at hh
            split at hh
            · cases hh
            · rename_i hc
              rcases List.mem_cons.1 ht with rfl | ht
              · cases hb : has t.text (names xs)
                · exact absurd ⟨hk, hb⟩ hc
                · exact has_yes hb
              · exact ih hh t ht hk
        have hA : ∀ zs : List Al, undef (names xs) zs = none → ∀ x ∈ zs, ∀ t ∈ x.2, t.kind = 1 → t.text ∈ names xs := by
          intro zs
          induction zs with
          | nil => exact fun _ x hx => by simp at hx
          | cons z r ih =>
            intro hh x hxz
            rw [undef] at hh
            obtain ⟨h1, h2⟩ := Option.or_eq_none_iff.1 hh
            rcases List.mem_cons.1 hxz with rfl | hxz
            · exact hT _ h1
            · exact ih h2 x hxz
        exact hA xs hu
      have hTk : ∀ x ∈ xs, ∀ t ∈ x.2, t.kind = 2 → t.text ∈ terms xs := (terms_sub xs []).2
      have hin : ∀ x ∈ xs, x.1.text ∈ names xs := (foldl_put_sub (fun a : Al => a.1.text) xs []).2
      have hrin : ∀ x ∈ xs, rule (terms xs) (names xs) x ∈ rules (terms xs) (names xs) xs := (foldl_put_sub (fun a : Al => rule (terms xs) (names xs) a) xs []).2
      have hrm : ∀ r ∈ rules (terms xs) (names xs) xs, ∃ a ∈ xs, r = rule (terms xs) (names xs) a := fun r hr => by
        have := rules_mem (terms xs) (names xs) xs xs.length r (by rw [List.take_length]; exact hr)
        rw [List.take_length] at this; exact this
      obtain ⟨x0, hx0⟩ := List.exists_mem_of_ne_nil xs hne
      have n1 : 1 ≤ (names xs).length := List.length_pos_of_mem (hin x0 hx0)
      have r1 : 1 ≤ (rules (terms xs) (names xs) xs).length := List.length_pos_of_mem (hrin x0 hx0)
      have r2 := rules_len (terms xs) (names xs) xs xs.length
      rw [List.take_length] at r2
      have g1 : sizes ⟨terms xs, names xs, rules (terms xs) (names xs) xs⟩ = true := by
        unfold sizes; rw [decide_eq_true_eq]; exact ⟨n1, by show (names xs).length ≤ 40; omega, by show (terms xs).length ≤ 40; omega, r1, by show (rules _ _ xs).length ≤ 60; omega⟩
      have g2 : each (fun s => Lx.isName s.data.toList) (names xs) = true := by
        refine each_of (fold_nodup (fun a : Al => a.1.text) xs [] List.nodup_nil) (fun s hs => ?_)
        obtain ⟨a, ha, rfl⟩ := names_mem xs s hs
        exact (hx a ha).1.2.1 (hx a ha).1.1
      have g3 : each (fun s => Lx.isTerm s.data.toList) (terms xs) = true := by
        refine each_of (terms_nodup xs) (fun s hs => ?_)
        obtain ⟨a, ha, t, ht, hk, rfl⟩ := terms_mem xs s hs
        exact ((hx a ha).2 t ht).2.2 hk
      have g4 : each (fits ⟨terms xs, names xs, rules (terms xs) (names xs) xs⟩) (rules (terms xs) (names xs) xs) = true := by
        refine each_of (fold_nodup (fun a : Al => rule (terms xs) (names xs) a) xs [] List.nodup_nil) (fun r hr => ?_)
        obtain ⟨a, ha, rfl⟩ := hrm r hr
        have hl := left_sym hx (terms xs) (names xs) a ha
        have hp := pos_lt (hin a ha)
        simp only [fits, Bool.and_eq_true, decide_eq_true_eq, List.all_eq_true]
        refine ⟨⟨?_, ?_⟩, fun s hs => ?_⟩
        · unfold isN; rw [decide_eq_true_eq]; simp only; omega
        · have := h8 a ha; simpa [rule] using this
        · obtain ⟨t, ht, rfl⟩ := List.mem_map.1 (show s ∈ a.2.map (sym (terms xs) (names xs)) from hs)
          have hk := ((hx a ha).2 t ht).1
          by_cases k2 : t.kind = 2
          · have hq := pos_lt (hTk a ha t ht k2)
            rw [Bool.or_eq_true]; left
            unfold isT; rw [decide_eq_true_eq, sym_term k2]; simp only; omega
          · have hq := pos_lt (hN a ha t ht (by omega))
            have hs : sym (terms xs) (names xs) t = ((terms xs).length : Int) + pos t.text (names xs) := by unfold sym; rw [if_neg k2]
            rw [Bool.or_eq_true]; right
            unfold isN; rw [decide_eq_true_eq, hs]; simp only; omega
      have g5 : inOrder ((rules (terms xs) (names xs) xs).map (·.1)) (terms xs).length (((terms xs).length : Int) + (names xs).length) = true := by
        have := lefts_come hx (terms xs) xs.length (Nat.le_refl _)
        rw [List.take_length] at this
        unfold inOrder; rw [this]; simp
      have g6 : inOrder (seen ⟨terms xs, names xs, rules (terms xs) (names xs) xs⟩) 0 (terms xs).length = true := by
        have := terms_come hx (names xs) hN xs.length (Nat.le_refl _)
        rw [List.take_length] at this
        unfold inOrder
        have e : seen ⟨terms xs, names xs, rules (terms xs) (names xs) xs⟩ = (rules (terms xs) (names xs) xs).flatMap (fun r => r.2.filter (isTn (terms xs).length)) := rfl
        rw [e, this]; simp
      simp only [good, g1, g2, g3, g4, g5, g6, Bool.and_self]
end Go.Proofs.Ytdocbgfpnaiijaa.Gr

namespace Go.Proofs.Ytdocbgfpnaiijaa.Gr
open Go.Proofs.Ytdocbgfpnaiijaa.Rd

theorem good_each {g : Gm} (h : each (fits g) g.rules = false) : good g = false := by
  unfold good; rw [h]; simp
theorem good_names {g : Gm} (h : inOrder (g.rules.map (·.1)) g.terms.length ((g.terms.length : Int) + g.names.length) = false) : good g = false := by
  unfold good; rw [h]; simp

/-- one rule twice -/
theorem good_twice (t n : List ByteArray) (rs : List Rl) (r : Rl) (hr : r ∈ rs) : good ⟨t, n, rs ++ [r]⟩ = false := by
  refine good_each (each_fail rs.length (by simp) ?_)
  have e1 : (rs ++ [r])[rs.length]'(by simp) = r := by simp
  have e2 : (rs ++ [r]).take rs.length = rs := by simp
  show (fits _ ((rs ++ [r])[rs.length]'(by simp)) && !has ((rs ++ [r])[rs.length]'(by simp)) ((rs ++ [r]).take rs.length)) = false
  rw [e1, e2, has_mem hr]; simp

/-- a name more -/
theorem good_more {t n : List ByteArray} {rs : List Rl} (s : ByteArray) (h : good ⟨t, n, rs⟩ = true) : good ⟨t, n ++ [s], rs⟩ = false := by
  obtain ⟨_, _, _, _, h5, _⟩ := good_parts h
  refine good_names ?_
  unfold inOrder at h5 ⊢
  have h5' : comes (rs.map (·.1)) t.length = some ((t.length : Int) + n.length) := by simpa using h5
  show (comes (rs.map (·.1)) t.length == some ((t.length : Int) + (n ++ [s]).length)) = false
  rw [h5']
  rw [beq_eq_false_iff_ne]
  intro e
  have := Option.some.inj e
  rw [List.length_append] at this
  simp at this
  omega

theorem comes_all : ∀ (l : List Int) (lo m : Int), comes l lo = some m → lo ≤ m ∧ (∀ x ∈ l, x < m) ∧ ∀ y, lo ≤ y → y < m → y ∈ l
  | [], lo, m, h => by
    rw [comes] at h
    cases h
    exact ⟨Int.le_refl _, fun x hx => (by simp at hx), fun y h1 h2 => (by omega)⟩
  | x :: r, lo, m, h => by
    rcases Int.lt_trichotomy x lo with hx | hx | hx
    · rw [comes_came (by omega) (by omega)] at h
      obtain ⟨h1, h2, h3⟩ := comes_all r lo m h
      exact ⟨h1, fun y hy => by rcases List.mem_cons.1 hy with rfl | hy; omega; exact h2 y hy, fun y hy1 hy2 => List.mem_cons_of_mem _ (h3 y hy1 hy2)⟩
    · rw [comes_next hx] at h
      obtain ⟨h1, h2, h3⟩ := comes_all r (lo + 1) m h
      refine ⟨by omega, fun y hy => by rcases List.mem_cons.1 hy with rfl | hy; omega; exact h2 y hy, fun y hy1 hy2 => ?_⟩
      by_cases e : y = lo
      · exact List.mem_cons.2 (.inl (by omega))
      · exact List.mem_cons_of_mem _ (h3 y (by omega) hy2)
    · rw [comes_large hx] at h; cases h

theorem comes_below : ∀ (l : List Int) (m : Int), (∀ x ∈ l, x < m) → comes l m = some m
  | [], m, _ => rfl
  | x :: r, m, h => by
    have := h x List.mem_cons_self
    rw [comes_came (by omega) (by omega)]
    exact comes_below r m fun y hy => h y (List.mem_cons_of_mem _ hy)

/-- all come without the last ones just if these have come -/
theorem comes_less {l l2 : List Int} {lo hi : Int} (h : comes (l ++ l2) lo = some hi) (h2 : ∀ x ∈ l2, lo ≤ x) : (comes l lo == some hi) = decide (∀ x ∈ l2, x ∈ l) := by
  rw [comes_append] at h
  cases hl : comes l lo with
  | none => rw [hl] at h; cases h
  | some m =>
    rw [hl] at h
    have hm : comes l2 m = some hi := h
    obtain ⟨_, a2, a3⟩ := comes_all l lo m hl
    obtain ⟨b1, b2, b3⟩ := comes_all l2 m hi hm
    by_cases hall : ∀ x ∈ l2, x ∈ l
    · rw [decide_eq_true hall]
      have := comes_below l2 m fun x hx => a2 x (hall x hx)
      rw [this] at hm
      cases hm
      simp
    · rw [decide_eq_false hall, beq_eq_false_iff_ne]
      intro e
      have e' : m = hi := Option.some.inj e
      subst e'
      exact hall fun x hx => a3 x (h2 x hx) (b2 x hx)

theorem each_take {α : Type} [DecidableEq α] {p : α → Bool} {l : List α} (h : each p l = true) (k : Nat) : each p (l.take k) = true := by
  refine each_all fun i hi => ?_
  rw [List.length_take] at hi
  obtain ⟨h1, h2⟩ := each_get h i (by omega)
  rw [List.getElem_take, h1, List.take_take, Nat.min_eq_left (by omega), has_not h2]; rfl

/-- what is left of the law's reckoning: all that the last rule names has come -/
def lastCame (g : Gm) (rs : List Rl) (r : Rl) : Bool := has r.1 (rs.map (·.1)) && r.2.all (fun s => decide ((g.terms.length : Int) ≤ s) || rs.any (fun x => has s x.2))

/-- without its last rule -/
theorem good_less {g : Gm} (h : good g = true) (k : Nat) (hk : k + 1 = g.rules.length) (r : Rl) (hr : g.rules[k]? = some r) : good ⟨g.terms, g.names, g.rules.take k⟩ = (lastCame g (g.rules.take k) r && decide (0 < k)) := by
  obtain ⟨p1, p2, p3, p4, p5, p6⟩ := good_parts h
  have hs := of_decide_eq_true p1
  have hkl : k < g.rules.length := by omega
  have hr' : g.rules[k] = r := by rw [List.getElem?_eq_getElem hkl] at hr; exact Option.some.inj hr
  have hrs : g.rules = g.rules.take k ++ [r] := by
    have : g.rules = g.rules.take (k + 1) := by rw [hk, List.take_length]
    conv => lhs; rw [this, List.take_add_one, hr]
    rfl
  have hfit := (each_get p4 k hkl).1
  rw [hr'] at hfit
  simp only [fits, Bool.and_eq_true, List.all_eq_true] at hfit
  obtain ⟨⟨f1, _⟩, f3⟩ := hfit
  have f1' := of_decide_eq_true f1
  have e5 : inOrder ((g.rules.take k).map (·.1)) g.terms.length ((g.terms.length : Int) + g.names.length) = has r.1 ((g.rules.take k).map (·.1)) := by
    have h5 : comes ((g.rules.take k).map (·.1) ++ [r.1]) g.terms.length = some ((g.terms.length : Int) + g.names.length) := by
      have := p5
      rw [hrs, List.map_append] at this
      unfold inOrder at this
      simpa using this
    unfold inOrder
    rw [comes_less h5 (fun x hx => by rw [List.mem_singleton] at hx; rw [hx]; exact f1'.1)]
    unfold has
    rw [decide_eq_decide]
    simp
  have e6 : inOrder ((g.rules.take k).flatMap (fun x => x.2.filter (isT g))) 0 g.terms.length = r.2.all (fun s => decide ((g.terms.length : Int) ≤ s) || (g.rules.take k).any (fun x => has s x.2)) := by
    have h6 : comes ((g.rules.take k).flatMap (fun x => x.2.filter (isT g)) ++ r.2.filter (isT g)) 0 = some (g.terms.length : Int) := by
      have := p6
      unfold seen at this
      rw [hrs, List.flatMap_append] at this
      unfold inOrder at this
      simpa using this
    have hT : ∀ s, isT g s = true ↔ (0 ≤ s ∧ s < (g.terms.length : Int)) := fun s => by unfold isT; rw [decide_eq_true_eq]
    unfold inOrder
    rw [comes_less h6 (fun x hx => ((hT x).1 (List.mem_filter.1 hx).2).1), Bool.eq_iff_iff, decide_eq_true_eq, List.all_eq_true]
    have hpos : ∀ s ∈ r.2, 0 ≤ s := fun s hs' => by
      have := f3 s hs'
      rw [Bool.or_eq_true] at this
      rcases this with h | h
      · exact ((hT s).1 h).1
      · have := of_decide_eq_true h; omega
    constructor
    · intro hh s hs'
      rw [Bool.or_eq_true, decide_eq_true_eq]
      by_cases hl : (g.terms.length : Int) ≤ s
      · exact .inl hl
      · right
        have hmem := hh s (List.mem_filter.2 ⟨hs', (hT s).2 ⟨hpos s hs', by omega⟩⟩)
        obtain ⟨x, hx, hsx⟩ := List.mem_flatMap.1 hmem
        exact List.any_eq_true.2 ⟨x, hx, has_mem (List.mem_filter.1 hsx).1⟩
    · intro hh s hs'
      obtain ⟨h1, h2⟩ := List.mem_filter.1 hs'
      have := hh s h1
      rw [Bool.or_eq_true, decide_eq_true_eq] at this
      rcases this with h | h
      · have := (hT s).1 h2; omega
      · obtain ⟨x, hx, hsx⟩ := List.any_eq_true.1 h
        exact List.mem_flatMap.2 ⟨x, hx, List.mem_filter.2 ⟨has_yes hsx, h2⟩⟩
  have e4 : each (fits ⟨g.terms, g.names, g.rules.take k⟩) (g.rules.take k) = true := each_take p4 k
  have e1 : sizes ⟨g.terms, g.names, g.rules.take k⟩ = decide (0 < k) := by
    unfold sizes
    rw [decide_eq_decide]
    simp only [List.length_take]
    omega
  unfold good lastCame
  show (sizes ⟨g.terms, g.names, g.rules.take k⟩ && each (fun s => Lx.isName s.data.toList) g.names && each (fun s => Lx.isTerm s.data.toList) g.terms && each (fits ⟨g.terms, g.names, g.rules.take k⟩) (g.rules.take k) && inOrder ((g.rules.take k).map (·.1)) g.terms.length ((g.terms.length : Int) + g.names.length) && inOrder ((g.rules.take k).flatMap (fun x => x.2.filter (isT g))) 0 g.terms.length) = _
  rw [e1, p2, p3, e4, e5, e6]
  cases decide (0 < k) <;> simp
end Go.Proofs.Ytdocbgfpnaiijaa.Gr

namespace Go.Proofs.Ytdocbgfpnaiijaa.Gr
open Go.Proofs.Ytdocbgfpnaiijaa.Rd

theorem pos_first {α : Type} [DecidableEq α] (l : List α) (k : Nat) (h : k < l.length) : decide (pos l[k] l = (k : Int)) = !has l[k] (l.take k) := by
  have hm : l[k] ∈ l := List.getElem_mem h
  obtain ⟨j, hj, e1, e2⟩ := pos_mem hm
  by_cases hin : l[k] ∈ l.take k
  · rw [has_mem hin, decide_eq_false]
    · rfl
    · intro e
      have hp := pos_pre (List.take_prefix k l) hin
      have := (pos_lt hin).2
      rw [List.length_take] at this
      rw [hp] at e
      omega
  · rw [has_not hin, decide_eq_true]
    · rfl
    · rw [e1]
      have hjk : ¬ j < k := fun hjk => hin (by
        rw [← e2]
        exact List.mem_take_iff_getElem.2 ⟨j, by omega, rfl⟩)
      by_cases hkj : j = k
      · rw [hkj]
      · exfalso
        -- the place is the first one
        have key : ∀ (l : List α) (k : Nat) (h : k < l.length) (x : α), l[k] = x → pos x l ≤ (k : Int) := by
          intro l
          induction l with
          | nil => intro k h; simp at h
          | cons y r ih =>
            intro k h x hx
            rw [pos]
            by_cases e : x = y
            · rw [if_pos e]; omega
            · rw [if_neg e]
              cases k with
              | zero => simp at hx; exact absurd hx.symm e
              | succ k =>
                have := ih k (by simpa using h) x (by simpa using hx)
                by_cases q : pos x r = -1
                · rw [if_pos q]; omega
                · rw [if_neg q]; omega
        have := key l k h _ rfl
        omega

/-- the terminals that have come, behind some symbols more -/
def dS (t n : Nat) : Int → List Int → Option Int
  | tm, [] => some tm
  | tm, s :: r => if s < 0 ∨ (t : Int) + n ≤ s ∨ (s < t ∧ tm < s) then none else dS t n (if s = tm ∧ s < t then tm + 1 else tm) r

/-- the document's reckoning, rule by rule -/
def dR (t n : Nat) : List Rl → Int → Int → List Rl → Bool
  | _, nm, tm, [] => decide (nm = n) && decide (tm = t)
  | pre, nm, tm, r :: rest =>
    if r.1 < t ∨ (t : Int) + nm < r.1 ∨ (t : Int) + n ≤ r.1 ∨ 8 < r.2.length ∨ r ∈ pre then false else
    match dS t n tm r.2 with
    | none => false
    | some tm' => dR t n (pre ++ [r]) (if r.1 = (t : Int) + nm then nm + 1 else nm) tm' rest

def symOk (t n : Nat) (s : Int) : Bool := decide (0 ≤ s ∧ s < (t : Int) + n)
def tOk (t : Nat) (s : Int) : Bool := decide (0 ≤ s ∧ s < (t : Int))

theorem dS_is (t n : Nat) : ∀ (ss : List Int) (tm : Int), dS t n tm ss = if ss.all (symOk t n) = true then comes (ss.filter (tOk t)) tm else none
  | [], tm => by simp [dS, comes]
  | s :: r, tm => by
    rw [dS, List.all_cons, List.filter_cons]
    by_cases h0 : symOk t n s = true
    · have h1 := of_decide_eq_true h0
      rw [h0, Bool.true_and]
      by_cases hT : tOk t s = true
      · have h2 := of_decide_eq_true hT
        rw [if_pos hT]
        rcases Int.lt_trichotomy s tm with hlt | heq | hgt
        · rw [if_neg (by omega), if_neg (by omega), comes_came (by omega) (by omega)]
          exact dS_is t n r tm
        · rw [if_neg (by omega), if_pos ⟨heq, h2.2⟩, comes_next heq]
          exact dS_is t n r (tm + 1)
        · rw [if_pos (by omega), comes_large hgt]
          split <;> rfl
      · have h2 : ¬ (0 ≤ s ∧ s < (t : Int)) := fun h => hT (decide_eq_true h)
        rw [if_neg hT, if_neg (by omega), if_neg (by omega)]
        exact dS_is t n r tm
    · have h1 : ¬ (0 ≤ s ∧ s < (t : Int) + n) := fun h => h0 (decide_eq_true h)
      rw [if_pos (by omega)]
      have : symOk t n s = false := by simpa using h0
      rw [this]; rfl

def fitsB (t n : Nat) (r : Rl) : Bool := decide ((t : Int) ≤ r.1 ∧ r.1 < (t : Int) + n) && decide (r.2.length ≤ 8) && r.2.all (symOk t n)

/-- each one fits, none has come, behind some -/
def eachF (t n : Nat) : List Rl → List Rl → Bool
  | _, [] => true
  | pre, r :: rest => fitsB t n r && !has r pre && eachF t n (pre ++ [r]) rest

theorem dR_is (t n : Nat) : ∀ (rest pre : List Rl) (nm tm : Int), dR t n pre nm tm rest = (eachF t n pre rest && (comes (rest.map (·.1)) ((t : Int) + nm) == some ((t : Int) + n)) && (comes (rest.flatMap (fun r => r.2.filter (tOk t))) tm == some (t : Int)))
  | [], pre, nm, tm => by
    rw [dR]
    simp only [eachF, List.map_nil, List.flatMap_nil, comes, Bool.true_and]
    have e1 : decide (nm = (n : Int)) = (some ((t : Int) + nm) == some ((t : Int) + n)) := by
      rw [Bool.eq_iff_iff, decide_eq_true_eq, beq_iff_eq, Option.some.injEq]; omega
    have e2 : decide (tm = (t : Int)) = (some tm == some (t : Int)) := by
      rw [Bool.eq_iff_iff, decide_eq_true_eq, beq_iff_eq, Option.some.injEq]
    rw [e1, e2]
  | r :: rest, pre, nm, tm => by
    rw [dR]
    simp only [eachF, List.map_cons, List.flatMap_cons]
    by_cases hf : fitsB t n r = true
    · have hf' := hf
      simp only [fitsB, Bool.and_eq_true, decide_eq_true_eq] at hf'
      obtain ⟨⟨f1, f2⟩, f3⟩ := hf'
      by_cases hp : r ∈ pre
      · rw [if_pos (.inr (.inr (.inr (.inr hp)))), has_mem hp, hf]; simp
      · by_cases hlt : (t : Int) + nm < r.1
        · rw [if_pos (.inr (.inl hlt)), comes_large hlt]; simp
        · rw [if_neg (by rintro (h | h | h | h | h) <;> first | omega | exact hp h), dS_is, if_pos f3, hf, has_not hp]
          rw [comes_append]
          cases hc : comes (r.2.filter (tOk t)) tm with
          | none => simp
          | some tm' =>
            simp only [Option.bind_some, Bool.not_false, Bool.true_and]
            rw [dR_is t n rest (pre ++ [r])]
            congr 2
            by_cases he : r.1 = (t : Int) + nm
            · rw [if_pos he, comes_next he]; congr 2; omega
            · rw [if_neg he, comes_came hlt he]
    · have hff : fitsB t n r = false := by simpa using hf
      rw [hff]
      simp only [Bool.false_and]
      by_cases hbad : r.1 < t ∨ (t : Int) + nm < r.1 ∨ (t : Int) + n ≤ r.1 ∨ 8 < r.2.length ∨ r ∈ pre
      · rw [if_pos hbad]
      · rw [if_neg hbad, dS_is]
        have : r.2.all (symOk t n) = false := by
          cases ha : r.2.all (symOk t n)
          · rfl
          · exfalso
            apply hf
            unfold fitsB
            rw [ha, decide_eq_true (by omega), decide_eq_true (by omega)]; rfl
        rw [if_neg (by rw [this]; simp)]

theorem eachF_iff (t n : Nat) : ∀ (rest pre : List Rl), eachF t n pre rest = true ↔ ∀ k (hk : k < rest.length), fitsB t n rest[k] = true ∧ rest[k] ∉ pre ++ rest.take k
  | [], pre => by simp [eachF]
  | r :: rest, pre => by
    rw [eachF, Bool.and_eq_true, Bool.and_eq_true, eachF_iff t n rest (pre ++ [r])]
    constructor
    · rintro ⟨⟨h1, h2⟩, h3⟩ k hk
      cases k with
      | zero =>
        refine ⟨h1, ?_⟩
        rw [List.take_zero, List.append_nil]
        exact has_no (by simpa using h2)
      | succ k =>
        obtain ⟨a, b⟩ := h3 k (by simpa using hk)
        refine ⟨a, ?_⟩
        simpa [List.append_assoc] using b
    · intro h
      obtain ⟨a, b⟩ := h 0 (by simp)
      rw [List.take_zero, List.append_nil] at b
      have b' : r ∉ pre := b
      refine ⟨⟨a, by rw [has_not b']; rfl⟩, fun k hk => ?_⟩
      obtain ⟨c, d⟩ := h (k + 1) (by simpa using hk)
      exact ⟨c, by simpa [List.append_assoc] using d⟩
theorem each_iff {α : Type} [DecidableEq α] (p : α → Bool) (l : List α) : each p l = true ↔ ∀ k (hk : k < l.length), p l[k] = true ∧ l[k] ∉ l.take k :=
  ⟨fun h k hk => each_get h k hk, fun h => each_all fun k hk => by rw [(h k hk).1, has_not (h k hk).2]; rfl⟩

/-- the document's Good -/
def refGood (g : Gm) : Bool := sizes g && each (fun s => Lx.isName s.data.toList) g.names && each (fun s => Lx.isTerm s.data.toList) g.terms && dR g.terms.length g.names.length [] 0 0 g.rules

theorem refGood_is (g : Gm) : refGood g = good g := by
  have hT : ∀ s, isT g s = tOk g.terms.length s := fun s => rfl
  have hS : ∀ s, (isT g s || isN g s) = symOk g.terms.length g.names.length s := fun s => by
    unfold isT isN symOk
    rw [Bool.eq_iff_iff, Bool.or_eq_true, decide_eq_true_eq, decide_eq_true_eq, decide_eq_true_eq]; omega
  have hF : ∀ r, fits g r = fitsB g.terms.length g.names.length r := fun r => by
    unfold fits fitsB isN
    congr 1
    exact congrArg _ (funext hS)
  have hE : eachF g.terms.length g.names.length [] g.rules = each (fits g) g.rules := by
    rw [Bool.eq_iff_iff, eachF_iff, each_iff]
    simp only [List.nil_append, hF]
  unfold refGood good
  rw [dR_is, hE]
  unfold inOrder seen
  rw [show (fun r : Rl => r.2.filter (isT g)) = (fun r : Rl => r.2.filter (tOk g.terms.length)) from funext fun r => congrArg (fun f => r.2.filter f) (funext hT), Int.add_zero]
  simp only [Bool.and_assoc]
end Go.Proofs.Ytdocbgfpnaiijaa.Gr
