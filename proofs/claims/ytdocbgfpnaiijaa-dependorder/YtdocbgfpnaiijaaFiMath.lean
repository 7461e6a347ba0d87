/-
  The plain mathematics of layer 8 (first): with which terminals a symbol begins, by definition; sets that grow, in rows; a search that tells gains; rounds till nothing changes. Nothing of the program is imported here.
-/
import Derived.Test.YtdocbgfpnaiijaaNlMath
namespace Go.Proofs.Ytdocbgfpnaiijaa.Fi
open Go.Proofs.Ytdocbgfpnaiijaa.Gr Go.Proofs.Ytdocbgfpnaiijaa.Nl

/-- symbols ahead of which each may be nothing -/
def heads (nl : List Bool) : List Int → List Int
  | [] => []
  | x :: r => x :: (if isAt nl x then heads nl r else [])
/-- how many these are -/
def hn (nl : List Bool) : List Int → Nat
  | [] => 0
  | x :: r => (if isAt nl x then hn nl r else 0) + 1

theorem heads_take (nl : List Bool) : ∀ l, heads nl l = l.take (hn nl l)
  | [] => rfl
  | x :: r => by
    simp only [heads, hn, List.take_succ_cons]
    cases isAt nl x
    · simp
    · simp [heads_take nl r]
theorem hn_le (nl : List Bool) : ∀ l, hn nl l ≤ l.length
  | [] => Nat.le_refl _
  | x :: r => by
    have := hn_le nl r
    simp only [hn, List.length_cons]
    split <;> omega
theorem heads_mem {nl : List Bool} {l : List Int} {x : Int} (h : x ∈ heads nl l) : x ∈ l := by
  rw [heads_take] at h; exact List.mem_of_mem_take h
theorem heads_more {nl nl' : List Bool} (hle : Le nl nl') : ∀ {l : List Int} {x : Int}, x ∈ heads nl l → x ∈ heads nl' l
  | [], _, h => h
  | y :: r, x, h => by
    simp only [heads, List.mem_cons] at h ⊢
    rcases h with h | h
    · exact .inl h
    · cases e : isAt nl y
      · rw [e] at h; simp at h
      · rw [e] at h
        rw [hle.isAt e]
        exact .inr (heads_more hle h)
theorem heads_append (nl : List Bool) : ∀ p q : List Int, heads nl (p ++ q) = heads nl p ++ (if allIn nl p = true then heads nl q else [])
  | [], q => by simp [heads, allIn]
  | x :: p, q => by
    have e : allIn nl (x :: p) = (isAt nl x && allIn nl p) := rfl
    simp only [List.cons_append, heads, e]
    cases isAt nl x
    · simp
    · simp [heads_append nl p q]
theorem hn_drop {nl : List Bool} {l : List Int} {i : Nat} (h : i < l.length) : hn nl (l.drop i) = (if isAt nl l[i] then hn nl (l.drop (i + 1)) else 0) + 1 := by
  rw [List.drop_eq_getElem_cons h]; rfl

/-- a symbol begins with a terminal -/
inductive Beg (rs : List Rl) (nl : List Bool) (T : Nat) : Int → Int → Prop
  | own (t : Int) (h0 : 0 ≤ t) (h1 : t < T) : Beg rs nl T t t
  | up (r : Rl) (hr : r ∈ rs) (x : Int) (hx : x ∈ heads nl r.2) (t : Int) (h : Beg rs nl T x t) : Beg rs nl T r.1 t

theorem Beg.term {rs : List Rl} {nl : List Bool} {T : Nat} {s t : Int} (h : Beg rs nl T s t) : 0 ≤ t ∧ t < T := by
  induction h with
  | own t h0 h1 => exact ⟨h0, h1⟩
  | up r hr x hx t h ih => exact ih
theorem Beg.cases' {rs : List Rl} {nl : List Bool} {T : Nat} {s t : Int} (h : Beg rs nl T s t) : s = t ∨ ∃ r ∈ rs, r.1 = s ∧ ∃ x ∈ heads nl r.2, Beg rs nl T x t := by
  cases h with
  | own _ h0 h1 => exact .inl rfl
  | up r hr x hx _ h => exact .inr ⟨r, hr, rfl, x, hx, h⟩
theorem Beg.more {rs rs' : List Rl} {nl nl' : List Bool} {T : Nat} (hs : ∀ r ∈ rs, r ∈ rs') (hle : Le nl nl') {s t : Int} (h : Beg rs nl T s t) : Beg rs' nl' T s t := by
  induction h with
  | own t h0 h1 => exact .own t h0 h1
  | up r hr x hx t _ ih => exact .up r (hs r hr) x (heads_more hle hx) t ih
theorem Beg.of_term {T n : Nat} {rs : List Rl} {nl : List Bool} (hf : Fit T n rs) {s t : Int} (hs : s < T) (h : Beg rs nl T s t) : s = t := by
  rcases h.cases' with e | ⟨r, hr, rfl, _⟩
  · exact e
  · have := (hf.left r hr).1; omega

/-! ### rows of answers -/
def row (ss : List (List Bool)) (s : Int) : List Bool := ss.getD s.toNat []
/-- is it told? -/
def has (ss : List (List Bool)) (s t : Int) : Bool := decide (0 ≤ s) && isAt (row ss s) t
/-- one more is told -/
def put (ss : List (List Bool)) (s t : Int) : List (List Bool) := ss.set s.toNat (tell (row ss s) t)
/-- how many are told -/
def cnt2 (ss : List (List Bool)) : Nat := (ss.map cnt).sum
/-- so many rows, each so long -/
structure Shape (n T : Nat) (ss : List (List Bool)) : Prop where
  len : ss.length = n
  each : ∀ r ∈ ss, r.length = T

theorem Shape.row {n T : Nat} {ss : List (List Bool)} (h : Shape n T ss) {s : Int} (h0 : 0 ≤ s) (h1 : s < n) : ∃ hk : s.toNat < ss.length, Fi.row ss s = ss[s.toNat] ∧ (Fi.row ss s).length = T := by
  have hk : s.toNat < ss.length := by rw [h.len]; omega
  have e : Fi.row ss s = ss[s.toNat] := by simp [Fi.row, List.getD_eq_getElem?_getD, hk]
  exact ⟨hk, e, by rw [e]; exact h.each _ (List.getElem_mem hk)⟩
theorem row_none {ss : List (List Bool)} {s : Int} (h : (ss.length : Int) ≤ s) : row ss s = [] := by
  have hk : ss.length ≤ s.toNat := by omega
  simp [row, List.getD_eq_getElem?_getD, hk]
theorem Shape.lt {n T : Nat} {ss : List (List Bool)} (h : Shape n T ss) {s t : Int} (q : has ss s t = true) : (0 ≤ s ∧ s < n) ∧ 0 ≤ t ∧ t < T := by
  simp only [has, Bool.and_eq_true, decide_eq_true_eq] at q
  have h1 : s < n := by
    rcases Int.lt_or_le s n with e | e
    · exact e
    · rw [row_none (by rw [h.len]; exact e)] at q
      have := (isAt_lt q.2).2
      simp at this
      have := (isAt_lt q.2).1
      omega
  obtain ⟨_, _, hl⟩ := h.row q.1 h1
  have := isAt_lt q.2
  rw [hl] at this
  exact ⟨⟨q.1, h1⟩, this⟩
theorem Shape.put {n T : Nat} {ss : List (List Bool)} (h : Shape n T ss) {s t : Int} (h0 : 0 ≤ s) (h1 : s < n) : Shape n T (put ss s t) := by
  obtain ⟨hk, e, hl⟩ := h.row h0 h1
  refine ⟨by simp [Fi.put, h.len], fun r hr => ?_⟩
  rcases List.mem_or_eq_of_mem_set hr with hr | rfl
  · exact h.each r hr
  · rw [tell_len]; exact hl
theorem row_put_self {ss : List (List Bool)} {s t : Int} (hk : s.toNat < ss.length) : row (put ss s t) s = tell (row ss s) t := by
  simp [row, put, List.getD_eq_getElem?_getD, hk]
theorem row_put_other {ss : List (List Bool)} {s t a : Int} (h : s.toNat ≠ a.toNat) : row (put ss s t) a = row ss a := by
  simp [row, put, List.getD_eq_getElem?_getD, h]
theorem has_put {n T : Nat} {ss : List (List Bool)} (h : Shape n T ss) {s t : Int} (h0 : 0 ≤ s) (h1 : s < n) (h2 : 0 ≤ t) (h3 : t < T) : has (put ss s t) s t = true := by
  obtain ⟨hk, e, hl⟩ := h.row h0 h1
  simp only [has, Bool.and_eq_true, decide_eq_true_eq]
  refine ⟨h0, ?_⟩
  rw [row_put_self hk]
  exact tell_at h2 (by rw [hl]; exact h3)
theorem put_mono {n T : Nat} {ss : List (List Bool)} (h : Shape n T ss) {s t a b : Int} (h0 : 0 ≤ s) (h1 : s < n) (q : has ss a b = true) : has (put ss s t) a b = true := by
  obtain ⟨hk, _, _⟩ := h.row h0 h1
  simp only [has, Bool.and_eq_true, decide_eq_true_eq] at q ⊢
  refine ⟨q.1, ?_⟩
  by_cases e : s.toNat = a.toNat
  · have e' : s = a := by omega
    subst e'
    rw [row_put_self hk]
    exact (tell_le _ _).isAt q.2
  · rw [row_put_other e]; exact q.2
theorem put_back {n T : Nat} {ss : List (List Bool)} (h : Shape n T ss) {s t a b : Int} (h0 : 0 ≤ s) (h1 : s < n) (h2 : 0 ≤ t) (q : has (put ss s t) a b = true) : (a = s ∧ b = t) ∨ has ss a b = true := by
  obtain ⟨hk, _, _⟩ := h.row h0 h1
  simp only [has, Bool.and_eq_true, decide_eq_true_eq] at q ⊢
  by_cases e : s.toNat = a.toNat
  · have e' : s = a := by omega
    subst e'
    rw [row_put_self hk] at q
    rcases tell_back h2 q.2 with e2 | e2
    · exact .inl ⟨rfl, e2⟩
    · exact .inr ⟨q.1, e2⟩
  · rw [row_put_other e] at q; exact .inr q

theorem sum_set : ∀ (l : List Nat) (i x : Nat) (h : i < l.length), (l.set i x).sum + l[i] = l.sum + x
  | a :: l, 0, x, _ => by simp; omega
  | a :: l, i + 1, x, h => by
    have := sum_set l i x (by simpa using h)
    simp only [List.set_cons_succ, List.sum_cons, List.getElem_cons_succ]
    omega
theorem cnt_tell : ∀ (b : List Bool) (k : Nat), k < b.length → b.getD k false = false → cnt (b.set k true) = cnt b + 1
  | x :: r, 0, _, h => by simp only [List.getD_cons_zero] at h; subst h; simp [cnt]; omega
  | x :: r, k + 1, h, h' => by
    have := cnt_tell r k (by simpa using h) (by simpa using h')
    simp only [List.set_cons_succ, cnt, this]; omega
theorem cnt2_put {n T : Nat} {ss : List (List Bool)} (h : Shape n T ss) {s t : Int} (h0 : 0 ≤ s) (h1 : s < n) (h2 : 0 ≤ t) (h3 : t < T) (q : has ss s t = false) : cnt2 (put ss s t) = cnt2 ss + 1 := by
  obtain ⟨hk, e, hl⟩ := h.row h0 h1
  have hq : isAt (row ss s) t = false := by
    rw [has, decide_eq_true h0, Bool.true_and] at q; exact q
  have hc : cnt (tell (row ss s) t) = cnt (row ss s) + 1 := by
    refine cnt_tell _ _ (by rw [hl]; omega) ?_
    simpa [isAt, h2] using hq
  have := sum_set (ss.map cnt) s.toNat (cnt (tell (row ss s) t)) (by simpa using hk)
  rw [List.getElem_map, ← e, hc] at this
  unfold cnt2 put
  rw [List.map_set, hc]
  omega
theorem cnt2_le : ∀ {ss : List (List Bool)} {n T : Nat}, Shape n T ss → cnt2 ss ≤ n * T
  | [], n, T, h => by simp [cnt2]
  | r :: ss, n, T, h => by
    have hn : n = ss.length + 1 := by rw [← h.len]; rfl
    subst hn
    have h1 := cnt2_le (ss := ss) (n := ss.length) (T := T) ⟨rfl, fun r hr => h.each r (List.mem_cons_of_mem _ hr)⟩
    have h2 := cnt_le r
    rw [h.each r (List.mem_cons_self ..)] at h2
    unfold cnt2 at *
    simp only [List.map_cons, List.sum_cons, Nat.add_mul, Nat.one_mul]
    omega

open Classical in
/-- of each symbol, of each terminal, whether the one begins with the other -/
noncomputable def rows (rs : List Rl) (nl : List Bool) (T n : Nat) : List (List Bool) := (List.range n).map fun (s : Nat) => (List.range T).map fun (t : Nat) => decide (Beg rs nl T (s : Int) (t : Int))

theorem rows_shape (rs : List Rl) (nl : List Bool) (T n : Nat) : Shape n T (rows rs nl T n) := by
  refine ⟨by simp [rows], fun r hr => ?_⟩
  simp only [rows, List.mem_map, List.mem_range] at hr
  obtain ⟨_, _, rfl⟩ := hr
  simp
open Classical in
theorem rows_has {T n : Nat} {rs : List Rl} {nl : List Bool} {s t : Int} (h0 : 0 ≤ s) (h1 : s < n) : has (rows rs nl T n) s t = true ↔ Beg rs nl T s t := by
  obtain ⟨hk, e, hl⟩ := (rows_shape rs nl T n).row h0 h1
  have e2 : row (rows rs nl T n) s = (List.range T).map fun (t : Nat) => decide (Beg rs nl T s (t : Int)) := by
    rw [e]
    simp only [rows, List.getElem_map, List.getElem_range]
    rw [show ((s.toNat : Nat) : Int) = s from by omega]
  simp only [has, Bool.and_eq_true, decide_eq_true_eq]
  constructor
  · rintro ⟨_, h⟩
    have := isAt_lt h
    rw [hl] at this
    rw [e2, isAt_get this.1 (by simp; omega)] at h
    simp only [List.getElem_map, List.getElem_range, decide_eq_true_eq] at h
    rwa [show ((t.toNat : Nat) : Int) = t from by omega] at h
  · intro h
    have := h.term
    refine ⟨h0, ?_⟩
    rw [e2, isAt_get this.1 (by simp; omega)]
    simp only [List.getElem_map, List.getElem_range, decide_eq_true_eq]
    rwa [show ((t.toNat : Nat) : Int) = t from by omega]

def Sound (rs : List Rl) (nl : List Bool) (T : Nat) (ss : List (List Bool)) : Prop := ∀ s t, has ss s t = true → Beg rs nl T s t
def Own (T : Nat) (ss : List (List Bool)) : Prop := ∀ t : Int, 0 ≤ t → t < T → has ss t t = true
def Closed (rs : List Rl) (nl : List Bool) (ss : List (List Bool)) : Prop := ∀ r ∈ rs, ∀ x ∈ heads nl r.2, ∀ t, has ss x t = true → has ss r.1 t = true

theorem complete {rs : List Rl} {nl : List Bool} {T : Nat} {ss : List (List Bool)} (ho : Own T ss) (hc : Closed rs nl ss) {s t : Int} (h : Beg rs nl T s t) : has ss s t = true := by
  induction h with
  | own t h0 h1 => exact ho t h0 h1
  | up r hr x hx t _ ih => exact hc r hr x hx t ih
theorem shape_ext {n T : Nat} {a b : List (List Bool)} (ha : Shape n T a) (hb : Shape n T b) (h : ∀ s t, has a s t = true ↔ has b s t = true) : a = b := by
  refine List.ext_getElem (by rw [ha.len, hb.len]) fun i h1 h2 => ?_
  have hin : i < n := by rw [← ha.len]; exact h1
  obtain ⟨_, ea, la⟩ := ha.row (s := (i : Int)) (by omega) (by omega)
  obtain ⟨_, eb, lb⟩ := hb.row (s := (i : Int)) (by omega) (by omega)
  simp only [Int.toNat_natCast] at ea eb
  rw [← ea, ← eb]
  refine List.ext_getElem (by rw [la, lb]) fun j g1 g2 => ?_
  have := h (i : Int) (j : Int)
  simp only [has, Bool.and_eq_true, decide_eq_true_eq] at this
  rw [isAt_get (by omega) (by simpa using g1), isAt_get (by omega) (by simpa using g2)] at this
  simp only [Int.toNat_natCast] at this
  rw [Bool.eq_iff_iff]
  exact ⟨fun q => (this.1 ⟨by omega, q⟩).2, fun q => (this.2 ⟨by omega, q⟩).2⟩
theorem rows_is {rs : List Rl} {nl : List Bool} {T n : Nat} {ss : List (List Bool)} (hs : Shape n T ss) (h1 : Sound rs nl T ss) (h2 : Own T ss) (h3 : Closed rs nl ss) : ss = rows rs nl T n := by
  refine shape_ext hs (rows_shape rs nl T n) fun s t => ⟨fun q => ?_, fun q => ?_⟩
  · have := (hs.lt q).1
    exact (rows_has this.1 this.2).2 (h1 s t q)
  · have := ((rows_shape rs nl T n).lt q).1
    exact complete h2 h3 ((rows_has this.1 this.2).1 q)
theorem rows_own {rs : List Rl} {nl : List Bool} {T n : Nat} (h : T ≤ n) : Own T (rows rs nl T n) := fun t h0 h1 => (rows_has h0 (by omega)).2 (.own t h0 h1)
theorem rows_closed {rs : List Rl} {nl : List Bool} {T n : Nat} (hf : Fit T n rs) : Closed rs nl (rows rs nl T n) := fun r hr x hx t q => by
  have h1 := hf.left r hr
  have h2 := ((rows_shape rs nl T n).lt q).1
  exact (rows_has (by omega) h1.2).2 (.up r hr x hx t ((rows_has h2.1 h2.2).1 q))
theorem none_shape (n T : Nat) : Shape n T (List.replicate n (List.replicate T false)) := ⟨by simp, fun r hr => by rw [List.eq_of_mem_replicate hr]; simp⟩
theorem none_has (n T : Nat) (s t : Int) : has (List.replicate n (List.replicate T false)) s t = false := by
  cases q : has (List.replicate n (List.replicate T false)) s t
  · rfl
  · have h := (none_shape n T).lt q
    obtain ⟨_, e, _⟩ := (none_shape n T).row h.1.1 h.1.2
    simp only [has, Bool.and_eq_true] at q
    rw [e, List.getElem_replicate, isAt_get h.2.1 (by simp; omega), List.getElem_replicate] at q
    exact absurd q.2 (by simp)
theorem none_cnt (n T : Nat) : cnt2 (List.replicate n (List.replicate T false)) = 0 := by
  have h : ∀ k, cnt (List.replicate k false) = 0 := by
    intro k; induction k with
    | zero => rfl
    | succ k ih => simp [List.replicate_succ, cnt, ih]
  unfold cnt2
  rw [List.map_replicate, h]
  induction n with
  | zero => rfl
  | succ n ih => rw [List.replicate_succ, List.sum_cons, ih]

/-! ### the left sides whose rules a symbol may stand first in -/
def push (ls : List (List Int)) (x l : Int) : List (List Int) := ls.set x.toNat (ls.getD x.toNat [] ++ [l])
def pushAll (ls : List (List Int)) (l : Int) (xs : List Int) : List (List Int) := xs.foldl (fun ls x => push ls x l) ls
def pushRule (nl : List Bool) (ls : List (List Int)) (r : Rl) : List (List Int) := pushAll ls r.1 (heads nl r.2)
def lefts (rs : List Rl) (nl : List Bool) (n : Nat) : List (List Int) := rs.foldl (pushRule nl) (List.replicate n [])

theorem push_len (ls : List (List Int)) (x l : Int) : (push ls x l).length = ls.length := by simp [push]
theorem pushAll_len (l : Int) : ∀ (xs : List Int) (ls : List (List Int)), (pushAll ls l xs).length = ls.length
  | [], _ => rfl
  | x :: xs, ls => by
    show (pushAll (push ls x l) l xs).length = _
    rw [pushAll_len l xs, push_len]
theorem push_mem {ls : List (List Int)} {x l : Int} (h0 : 0 ≤ x) (h1 : x < ls.length) {s : Int} (hs : 0 ≤ s) {y : Int} : y ∈ (push ls x l).getD s.toNat [] ↔ (y ∈ ls.getD s.toNat [] ∨ (s = x ∧ y = l)) := by
  have hk : x.toNat < ls.length := by omega
  unfold push
  by_cases e : x.toNat = s.toNat
  · have e' : s = x := by omega
    subst e'
    simp [List.getD_eq_getElem?_getD, hk]
  · have e' : ¬ s = x := fun h => e (by rw [h])
    simp [List.getD_eq_getElem?_getD, e, e']
theorem pushAll_mem {l : Int} : ∀ {xs : List Int} {ls : List (List Int)}, (∀ x ∈ xs, 0 ≤ x ∧ x < ls.length) → ∀ {s : Int}, 0 ≤ s → ∀ {y : Int}, y ∈ (pushAll ls l xs).getD s.toNat [] ↔ (y ∈ ls.getD s.toNat [] ∨ (s ∈ xs ∧ y = l))
  | [], ls, _, s, _, y => by simp [pushAll]
  | x :: xs, ls, h, s, hs, y => by
    have hx := h x (List.mem_cons_self ..)
    show y ∈ (pushAll (push ls x l) l xs).getD s.toNat [] ↔ _
    rw [pushAll_mem (fun z hz => by rw [push_len]; exact h z (List.mem_cons_of_mem _ hz)) hs, push_mem hx.1 hx.2 hs]
    simp only [List.mem_cons]
    constructor
    · rintro ((q | q) | q)
      · exact .inl q
      · exact .inr ⟨.inl q.1, q.2⟩
      · exact .inr ⟨.inr q.1, q.2⟩
    · rintro (q | ⟨q | q, e⟩)
      · exact .inl (.inl q)
      · exact .inl (.inr ⟨q, e⟩)
      · exact .inr ⟨q, e⟩
theorem fold_mem {nl : List Bool} {n : Nat} : ∀ {rs : List Rl} {ls : List (List Int)}, ls.length = n → (∀ r ∈ rs, ∀ s ∈ r.2, 0 ≤ s ∧ s < n) → (rs.foldl (pushRule nl) ls).length = n ∧ ∀ {s : Int}, 0 ≤ s → ∀ {y : Int}, y ∈ (rs.foldl (pushRule nl) ls).getD s.toNat [] ↔ (y ∈ ls.getD s.toNat [] ∨ ∃ r ∈ rs, r.1 = y ∧ s ∈ heads nl r.2)
  | [], ls, hl, _ => ⟨hl, fun hs y => by simp⟩
  | r :: rs, ls, hl, hf => by
    have h1 : (pushRule nl ls r).length = n := by unfold pushRule; rw [pushAll_len, hl]
    obtain ⟨g1, g2⟩ := fold_mem (nl := nl) (rs := rs) h1 fun q hq => hf q (List.mem_cons_of_mem _ hq)
    refine ⟨g1, fun {s} hs {y} => ?_⟩
    rw [List.foldl_cons, g2 hs]
    unfold pushRule
    rw [pushAll_mem (fun x hx => by rw [hl]; exact hf r (List.mem_cons_self ..) x (heads_mem hx)) hs]
    constructor
    · rintro ((q | ⟨q, e⟩) | ⟨r', hr', e, q⟩)
      · exact .inl q
      · exact .inr ⟨r, List.mem_cons_self .., e.symm, q⟩
      · exact .inr ⟨r', List.mem_cons_of_mem _ hr', e, q⟩
    · rintro (q | ⟨r', hr', e, q⟩)
      · exact .inl (.inl q)
      · rcases List.mem_cons.1 hr' with rfl | hr'
        · exact .inl (.inr ⟨q, e.symm⟩)
        · exact .inr ⟨r', hr', e, q⟩
theorem push_small (ls : List (List Int)) (x l : Int) (s : Nat) : ((push ls x l).getD s []).length ≤ (ls.getD s []).length + 1 := by
  unfold push
  by_cases e : x.toNat = s
  · subst e
    rcases Nat.lt_or_ge x.toNat ls.length with q | q
    · simp [List.getD_eq_getElem?_getD, q]
    · simp [List.getD_eq_getElem?_getD, q]
  · simp [List.getD_eq_getElem?_getD, e]
theorem pushAll_small (l : Int) (s : Nat) : ∀ (xs : List Int) (ls : List (List Int)), ((pushAll ls l xs).getD s []).length ≤ (ls.getD s []).length + xs.length
  | [], _ => Nat.le_refl _
  | x :: xs, ls => by
    show ((pushAll (push ls x l) l xs).getD s []).length ≤ _
    have h1 := pushAll_small l s xs (push ls x l)
    have h2 := push_small ls x l s
    simp only [List.length_cons]; omega
theorem heads_len (nl : List Bool) (l : List Int) : (heads nl l).length = hn nl l := by
  rw [heads_take, List.length_take]; have := hn_le nl l; omega
theorem fold_small {nl : List Bool} (s : Nat) : ∀ {rs : List Rl} {ls : List (List Int)}, (∀ r ∈ rs, r.2.length ≤ 8) → ((rs.foldl (pushRule nl) ls).getD s []).length ≤ (ls.getD s []).length + 8 * rs.length
  | [], ls, _ => by simp
  | r :: rs, ls, h => by
    have h1 := fold_small (nl := nl) s (rs := rs) (ls := pushRule nl ls r) fun q hq => h q (List.mem_cons_of_mem _ hq)
    have h2 := pushAll_small r.1 s (heads nl r.2) ls
    rw [heads_len] at h2
    have h3 := hn_le nl r.2
    have h4 := h r (List.mem_cons_self ..)
    rw [List.foldl_cons]
    simp only [List.length_cons]
    unfold pushRule at h1 ⊢
    omega
theorem fold_step (nl : List Bool) (rs : List Rl) (ls : List (List Int)) (k : Nat) (h : k < rs.length) : (rs.take (k + 1)).foldl (pushRule nl) ls = pushRule nl ((rs.take k).foldl (pushRule nl) ls) rs[k] := by
  rw [List.take_add_one, List.getElem?_eq_getElem h, List.foldl_append]; rfl
theorem pushAll_step (l : Int) (xs : List Int) (ls : List (List Int)) (k : Nat) (h : k < xs.length) : pushAll ls l (xs.take (k + 1)) = push (pushAll ls l (xs.take k)) xs[k] l := by
  unfold pushAll
  rw [List.take_add_one, List.getElem?_eq_getElem h, List.foldl_append]; rfl
theorem lefts_len {T n : Nat} {rs : List Rl} {nl : List Bool} (hf : Fit T n rs) : (lefts rs nl n).length = n := (fold_mem (nl := nl) (by simp) hf.right).1
theorem lefts_mem {T n : Nat} {rs : List Rl} {nl : List Bool} (hf : Fit T n rs) {s : Int} (hs : 0 ≤ s) {y : Int} : y ∈ (lefts rs nl n).getD s.toNat [] ↔ ∃ r ∈ rs, r.1 = y ∧ s ∈ heads nl r.2 := by
  unfold lefts
  rw [(fold_mem (nl := nl) (by simp) hf.right).2 hs]
  constructor
  · rintro (q | q)
    · rw [List.getD_eq_getElem?_getD, List.getElem?_replicate] at q
      split at q <;> simp at q
    · exact q
  · exact .inr

/-! ### the search -/
structure St where
  ss : List (List Bool)
  q : List (Int × Int)
def grow (s : St) (a t : Int) : St := if has s.ss a t = true then s else ⟨put s.ss a t, s.q ++ [(a, t)]⟩

/-- the search, amid growing: 'todo' are the steps that are still to be made -/
structure Inv (T n : Nat) (rs : List Rl) (nl : List Bool) (todo : Int → Int → Int → Prop) (s : St) : Prop where
  shape : Shape n T s.ss
  sound : Sound rs nl T s.ss
  few : s.q.length ≤ cnt2 s.ss
  q : ∀ p ∈ s.q, has s.ss p.1 p.2 = true
  prog : ∀ r ∈ rs, ∀ x ∈ heads nl r.2, ∀ t, has s.ss x t = true → has s.ss r.1 t = true ∨ (x, t) ∈ s.q ∨ todo x t r.1

def left (T n : Nat) (s : St) : Nat := 2 * (n * T - cnt2 s.ss) + s.q.length

theorem Inv.room {T n : Nat} {rs : List Rl} {nl : List Bool} {todo : Int → Int → Int → Prop} {s : St} (h : Inv T n rs nl todo s) : s.q.length ≤ n * T := Nat.le_trans h.few (cnt2_le h.shape)

theorem Inv.start {T n : Nat} {rs : List Rl} {nl : List Bool} : Inv T n rs nl (fun _ _ _ => False) ⟨List.replicate n (List.replicate T false), []⟩ :=
  ⟨none_shape n T, fun s t h => by rw [none_has] at h; simp at h, Nat.zero_le _, fun p hp => by simp at hp, fun r _ x _ t h => by simp only at h; rw [none_has] at h; simp at h⟩

theorem Inv.grow {T n : Nat} {rs : List Rl} {nl : List Bool} {todo : Int → Int → Int → Prop} {s : St} (h : Inv T n rs nl todo s) {a t : Int} (h0 : 0 ≤ a) (h1 : a < n) (hb : Beg rs nl T a t) :
    Inv T n rs nl (fun x u l => todo x u l ∧ ¬ (u = t ∧ l = a)) (Fi.grow s a t) ∧ left T n (Fi.grow s a t) ≤ left T n s ∧ has (Fi.grow s a t).ss a t = true ∧ (∀ x u, has s.ss x u = true → has (Fi.grow s a t).ss x u = true) ∧ (has s.ss a t = false → s.q.length < n * T) := by
  obtain ⟨t0, t1⟩ := hb.term
  unfold Fi.grow
  by_cases c : has s.ss a t = true
  · rw [if_pos c]
    refine ⟨⟨h.shape, h.sound, h.few, h.q, fun r hr x hx u hu => ?_⟩, Nat.le_refl _, c, fun _ _ q => q, fun q => by rw [c] at q; simp at q⟩
    rcases h.prog r hr x hx u hu with p | p | p
    · exact .inl p
    · exact .inr (.inl p)
    · by_cases e : u = t ∧ r.1 = a
      · obtain ⟨rfl, e⟩ := e
        rw [← e] at c
        exact .inl c
      · exact .inr (.inr ⟨p, e⟩)
  · rw [if_neg c]
    have c' : has s.ss a t = false := by simpa using c
    have hc := cnt2_put h.shape h0 h1 t0 t1 c'
    have hS : Shape n T (put s.ss a t) := h.shape.put h0 h1
    have hm : ∀ x u, has s.ss x u = true → has (put s.ss a t) x u = true := fun x u q => put_mono h.shape h0 h1 q
    have hp := has_put h.shape h0 h1 t0 t1
    have hl := cnt2_le hS
    have hf := h.few
    refine ⟨⟨hS, fun x u q => ?_, ?_, fun p hpq => ?_, fun r hr x hx u hu => ?_⟩, ?_, hp, hm, fun _ => ?_⟩
    · rcases put_back h.shape h0 h1 t0 q with ⟨rfl, rfl⟩ | q
      · exact hb
      · exact h.sound x u q
    · simp only [List.length_append, List.length_singleton]; omega
    · rcases List.mem_append.1 hpq with q | q
      · exact hm _ _ (h.q p q)
      · simp only [List.mem_singleton] at q; subst q; exact hp
    · rcases put_back h.shape h0 h1 t0 hu with ⟨rfl, rfl⟩ | hu
      · exact .inr (.inl (by simp))
      · rcases h.prog r hr x hx u hu with p | p | p
        · exact .inl (hm _ _ p)
        · exact .inr (.inl (List.mem_append.2 (.inl p)))
        · by_cases e : u = t ∧ r.1 = a
          · obtain ⟨rfl, e⟩ := e
            rw [e]; exact .inl hp
          · exact .inr (.inr ⟨p, e⟩)
    · unfold left
      simp only [List.length_append, List.length_singleton]; omega
    · omega
theorem Inv.weak {T n : Nat} {rs : List Rl} {nl : List Bool} {todo todo' : Int → Int → Int → Prop} {s : St} (h : Inv T n rs nl todo s) (hw : ∀ x t l, todo x t l → todo' x t l) : Inv T n rs nl todo' s :=
  ⟨h.shape, h.sound, h.few, h.q, fun r hr x hx t q => by
    rcases h.prog r hr x hx t q with p | p | p
    · exact .inl p
    · exact .inr (.inl p)
    · exact .inr (.inr (hw _ _ _ p))⟩
/-- a gain is taken: what follows from it is to be done -/
theorem Inv.take {T n : Nat} {rs : List Rl} {nl : List Bool} {ss : List (List Bool)} {a t : Int} {q : List (Int × Int)} (hf : Fit T n rs) (h : Inv T n rs nl (fun _ _ _ => False) ⟨ss, (a, t) :: q⟩) :
    Inv T n rs nl (fun _ u l => u = t ∧ l ∈ ((lefts rs nl n).getD a.toNat []).drop 0) ⟨ss, q⟩ ∧ left T n ⟨ss, q⟩ < left T n ⟨ss, (a, t) :: q⟩ ∧ (0 ≤ a ∧ a < n) ∧ ∀ l ∈ (lefts rs nl n).getD a.toNat [], (0 ≤ l ∧ l < n) ∧ Beg rs nl T l t := by
  have hat := h.q (a, t) (List.mem_cons_self ..)
  have hl := (h.shape.lt hat).1
  refine ⟨⟨h.shape, h.sound, ?_, fun p hp => h.q p (List.mem_cons_of_mem _ hp), fun r hr x hx u hu => ?_⟩, ?_, hl, fun l hml => ?_⟩
  · have := h.few; simp only [List.length_cons] at this ⊢; omega
  · rcases h.prog r hr x hx u hu with p | p | p
    · exact .inl p
    · rcases List.mem_cons.1 p with p | p
      · obtain ⟨rfl, rfl⟩ := Prod.mk.inj p
        refine .inr (.inr ⟨rfl, ?_⟩)
        rw [List.drop_zero]
        exact (lefts_mem hf hl.1).2 ⟨r, hr, rfl, hx⟩
      · exact .inr (.inl p)
    · exact p.elim
  · unfold left; simp
  · obtain ⟨r, hr, rfl, hx⟩ := (lefts_mem hf hl.1).1 hml
    have := hf.left r hr
    exact ⟨⟨by omega, this.2⟩, .up r hr a hx t (h.sound _ _ hat)⟩
theorem Inv.again {T n : Nat} {rs : List Rl} {nl : List Bool} {s : St} {t : Int} {ls : List Int} {k : Nat} (hk : k < ls.length) (h : Inv T n rs nl (fun _ u l => u = t ∧ l ∈ ls.drop k) s) (h0 : 0 ≤ ls[k]) (h1 : ls[k] < n) (hb : Beg rs nl T ls[k] t) :
    Inv T n rs nl (fun _ u l => u = t ∧ l ∈ ls.drop (k + 1)) (Fi.grow s ls[k] t) := by
  refine (h.grow h0 h1 hb).1.weak fun x u l ⟨⟨p, q⟩, e⟩ => ⟨p, ?_⟩
  rw [List.drop_eq_getElem_cons hk] at q
  rcases List.mem_cons.1 q with q | q
  · exact absurd ⟨p, q⟩ e
  · exact q
theorem Inv.rest {T n : Nat} {rs : List Rl} {nl : List Bool} {s : St} {t : Int} {ls : List Int} (h : Inv T n rs nl (fun _ u l => u = t ∧ l ∈ ls.drop ls.length) s) : Inv T n rs nl (fun _ _ _ => False) s :=
  h.weak fun x u l ⟨_, q⟩ => by simp at q
theorem Inv.done {T n : Nat} {rs : List Rl} {nl : List Bool} {ss : List (List Bool)} (h : Inv T n rs nl (fun _ _ _ => False) ⟨ss, []⟩) (ho : Own T ss) : ss = rows rs nl T n :=
  rows_is h.shape h.sound ho fun r hr x hx t q => by
    rcases h.prog r hr x hx t q with p | p | p
    · exact p
    · simp at p
    · exact p.elim

/-! ### rounds till nothing changes -/
/-- amid a round: it began with 'ss0'; 'ch': something has changed; all steps of the first k rules, of the k-th one's first j symbols, of its j-th one's first t terminals, have been made -/
structure Rnd (T n : Nat) (rs : List Rl) (nl : List Bool) (ss0 ss : List (List Bool)) (ch : Bool) (k j t : Nat) : Prop where
  shape : Shape n T ss
  sound : Sound rs nl T ss
  own : Own T ss
  yes : ch = true → cnt2 ss0 < cnt2 ss
  no : ch = false → ss = ss0 ∧ (∀ i (hi : i < rs.length), i < k → ∀ x ∈ heads nl rs[i].2, ∀ u, has ss x u = true → has ss rs[i].1 u = true) ∧
    (∀ hk : k < rs.length, (∀ x ∈ rs[k].2.take j, ∀ u, has ss x u = true → has ss rs[k].1 u = true) ∧ ∀ hj : j < rs[k].2.length, ∀ u : Int, u < t → has ss rs[k].2[j] u = true → has ss rs[k].1 u = true)

theorem Rnd.begin {T n : Nat} {rs : List Rl} {nl : List Bool} {ss : List (List Bool)} (h1 : Shape n T ss) (h2 : Sound rs nl T ss) (h3 : Own T ss) : Rnd T n rs nl ss ss false 0 0 0 :=
  ⟨h1, h2, h3, fun q => by simp at q, fun _ => ⟨rfl, fun i _ hi => by omega, fun hk => ⟨fun x hx => by simp at hx, fun hj u hu q => by have := (h1.lt q).2.1; omega⟩⟩⟩
/-- a step that says nothing new -/
theorem Rnd.same {T n : Nat} {rs : List Rl} {nl : List Bool} {ss0 ss : List (List Bool)} {ch : Bool} {k j t : Nat} (h : Rnd T n rs nl ss0 ss ch k j t) (hk : k < rs.length) (hj : j < rs[k].2.length) (hs : has ss rs[k].2[j] t = true → has ss rs[k].1 t = true) : Rnd T n rs nl ss0 ss ch k j (t + 1) :=
  ⟨h.shape, h.sound, h.own, h.yes, fun e => by
    obtain ⟨a, b, c⟩ := h.no e
    refine ⟨a, b, fun hk' => ⟨(c hk').1, fun hj' u hu q => ?_⟩⟩
    by_cases e2 : u < t
    · exact (c hk').2 hj' u e2 q
    · obtain rfl : u = (t : Int) := by omega
      exact hs q⟩
/-- a step that says something new -/
theorem Rnd.tell {T n : Nat} {rs : List Rl} {nl : List Bool} {ss0 ss : List (List Bool)} {ch : Bool} {k j t : Nat} (hf : Fit T n rs) (h : Rnd T n rs nl ss0 ss ch k j t) (hk : k < rs.length) (hj : j < rs[k].2.length) (hx : rs[k].2[j] ∈ heads nl rs[k].2) (hs : has ss rs[k].2[j] t = true) (hn : has ss rs[k].1 t = false) : Rnd T n rs nl ss0 (put ss rs[k].1 t) true k j (t + 1) := by
  have hm : rs[k] ∈ rs := List.getElem_mem hk
  have hl := hf.left _ hm
  have ht := (h.shape.lt hs).2
  have hc := cnt2_put h.shape (by omega) hl.2 ht.1 ht.2 hn
  refine ⟨h.shape.put (by omega) hl.2, fun x u q => ?_, fun u u0 u1 => put_mono h.shape (by omega) hl.2 (h.own u u0 u1), fun _ => ?_, fun e => by simp at e⟩
  · rcases put_back h.shape (by omega) hl.2 ht.1 q with ⟨rfl, rfl⟩ | q
    · exact .up _ hm _ hx _ (h.sound _ _ hs)
    · exact h.sound _ _ q
  · cases ch
    · rw [← (h.no rfl).1]; omega
    · have := h.yes rfl; omega
/-- the next symbol -/
theorem Rnd.next {T n : Nat} {rs : List Rl} {nl : List Bool} {ss0 ss : List (List Bool)} {ch : Bool} {k j : Nat} (h : Rnd T n rs nl ss0 ss ch k j T) (hk : k < rs.length) (hj : j < rs[k].2.length) : Rnd T n rs nl ss0 ss ch k (j + 1) 0 :=
  ⟨h.shape, h.sound, h.own, h.yes, fun e => by
    obtain ⟨a, b, c⟩ := h.no e
    refine ⟨a, b, fun hk' => ⟨fun x hx u q => ?_, fun hj' u hu q => by have := (h.shape.lt q).2.1; omega⟩⟩
    rw [List.take_add_one, List.getElem?_eq_getElem hj] at hx
    rcases List.mem_append.1 hx with hx | hx
    · exact (c hk').1 x hx u q
    · simp only [Option.toList_some, List.mem_singleton] at hx
      subst hx
      exact (c hk').2 hj u (h.shape.lt q).2.2 q⟩
/-- the next rule -/
theorem Rnd.rule {T n : Nat} {rs : List Rl} {nl : List Bool} {ss0 ss : List (List Bool)} {ch : Bool} {k j : Nat} (h : Rnd T n rs nl ss0 ss ch k j 0) (hk : k < rs.length) (hj : ∀ x ∈ heads nl rs[k].2, x ∈ rs[k].2.take j) : Rnd T n rs nl ss0 ss ch (k + 1) 0 0 :=
  ⟨h.shape, h.sound, h.own, h.yes, fun e => by
    obtain ⟨a, b, c⟩ := h.no e
    refine ⟨a, fun i hi hik x hx u q => ?_, fun hk' => ⟨fun x hx => by simp at hx, fun hj' u hu q => by have := (h.shape.lt q).2.1; omega⟩⟩
    by_cases e2 : i < k
    · exact b i hi e2 x hx u q
    · obtain rfl : i = k := by omega
      exact (c hk).1 x (hj x hx) u q⟩
theorem Rnd.done {T n : Nat} {rs : List Rl} {nl : List Bool} {ss0 ss : List (List Bool)} (h : Rnd T n rs nl ss0 ss false rs.length 0 0) : ss = rows rs nl T n := by
  obtain ⟨_, b, _⟩ := h.no rfl
  refine rows_is h.shape h.sound h.own fun r hr x hx t q => ?_
  obtain ⟨i, hi, rfl⟩ := List.getElem_of_mem hr
  exact b i hi hi x hx t q

/-! ### lists of what is told -/
/-- of the first k -/
def riseTo (b : List Bool) (k : Nat) : List Int := ((List.range k).filter fun (i : Nat) => b.getD i false).map fun (i : Nat) => (i : Int)
def rise (b : List Bool) : List Int := riseTo b b.length
theorem riseTo_zero (b : List Bool) : riseTo b 0 = [] := rfl
theorem riseTo_succ (b : List Bool) (k : Nat) : riseTo b (k + 1) = riseTo b k ++ (if b.getD k false = true then [(k : Int)] else []) := by
  unfold riseTo
  rw [List.range_succ, List.filter_append, List.map_append]
  congr 1
  by_cases h : b.getD k false = true
  · rw [if_pos h, List.filter_cons_of_pos (by exact h)]; rfl
  · rw [if_neg h, List.filter_cons_of_neg (by exact h)]; rfl
theorem mem_rise {b : List Bool} {x : Int} : x ∈ rise b ↔ isAt b x = true := by
  unfold rise riseTo
  simp only [List.mem_map, List.mem_filter, List.mem_range, isAt, Bool.and_eq_true, decide_eq_true_eq]
  constructor
  · rintro ⟨i, ⟨_, h⟩, rfl⟩
    exact ⟨by omega, by simpa using h⟩
  · rintro ⟨h0, h⟩
    have hi := (isAt_lt (b := b) (s := x) (by simp only [isAt, Bool.and_eq_true, decide_eq_true_eq]; exact ⟨h0, h⟩)).2
    exact ⟨x.toNat, ⟨by omega, h⟩, by omega⟩
theorem riseTo_len (b : List Bool) (k : Nat) : (riseTo b k).length ≤ k := by
  unfold riseTo
  rw [List.length_map]
  exact Nat.le_trans (List.length_filter_le _ _) (by simp)
theorem rise_sorted (b : List Bool) : (rise b).Pairwise (· < ·) := by
  unfold rise riseTo
  rw [List.pairwise_map]
  refine List.Pairwise.imp (R := (· < ·)) (fun h => by omega) ?_
  exact List.Pairwise.filter _ List.pairwise_lt_range
theorem rising_ext : ∀ {a b : List Int}, a.Pairwise (· < ·) → b.Pairwise (· < ·) → (∀ x, x ∈ a ↔ x ∈ b) → a = b
  | [], [], _, _, _ => rfl
  | [], y :: b, _, _, h => by have := (h y).2 (List.mem_cons_self ..); simp at this
  | x :: a, [], _, _, h => by have := (h x).1 (List.mem_cons_self ..); simp at this
  | x :: a, y :: b, ha, hb, h => by
    rw [List.pairwise_cons] at ha hb
    have e : x = y := by
      rcases List.mem_cons.1 ((h x).1 (List.mem_cons_self ..)) with q | q
      · exact q
      · rcases List.mem_cons.1 ((h y).2 (List.mem_cons_self ..)) with p | p
        · exact p.symm
        · have := hb.1 _ q; have := ha.1 _ p; omega
    subst e
    congr 1
    refine rising_ext ha.2 hb.2 fun z => ⟨fun q => ?_, fun q => ?_⟩
    · rcases List.mem_cons.1 ((h z).1 (List.mem_cons_of_mem _ q)) with p | p
      · subst p; have := ha.1 _ q; omega
      · exact p
    · rcases List.mem_cons.1 ((h z).2 (List.mem_cons_of_mem _ q)) with p | p
      · subst p; have := hb.1 _ q; omega
      · exact p
/-- a row of answers is told by what is told -/
theorem bools_ext {a b : List Bool} (hl : a.length = b.length) (h : ∀ t, isAt a t = true ↔ isAt b t = true) : a = b := by
  refine List.ext_getElem hl fun i h1 h2 => ?_
  have := h (i : Int)
  rw [isAt_get (by omega) (by simpa using h1), isAt_get (by omega) (by simpa using h2)] at this
  rw [Bool.eq_iff_iff]
  simpa using this

/-! ### symbols in a row -/
/-- of each terminal, whether symbols in a row begin with it -/
def ofL (nl : List Bool) (ss : List (List Bool)) (T : Nat) (l : List Int) : List Bool := (List.range T).map fun (t : Nat) => (heads nl l).any fun x => has ss x (t : Int)
theorem ofL_len (nl : List Bool) (ss : List (List Bool)) (T : Nat) (l : List Int) : (ofL nl ss T l).length = T := by simp [ofL]
theorem ofL_at {nl : List Bool} {ss : List (List Bool)} {n T : Nat} (h : Shape n T ss) {l : List Int} {t : Int} : isAt (ofL nl ss T l) t = true ↔ ∃ x ∈ heads nl l, has ss x t = true := by
  constructor
  · intro q
    have h1 := isAt_lt q
    rw [ofL_len] at h1
    rw [isAt_get h1.1 (by rw [ofL_len]; omega)] at q
    simp only [ofL, List.getElem_map, List.getElem_range, List.any_eq_true] at q
    rwa [show ((t.toNat : Nat) : Int) = t from by omega] at q
  · rintro ⟨x, hx, q⟩
    have h1 := (h.lt q).2
    rw [isAt_get h1.1 (by rw [ofL_len]; omega)]
    simp only [ofL, List.getElem_map, List.getElem_range, List.any_eq_true]
    rw [show ((t.toNat : Nat) : Int) = t from by omega]
    exact ⟨x, hx, q⟩
end Go.Proofs.Ytdocbgfpnaiijaa.Fi
