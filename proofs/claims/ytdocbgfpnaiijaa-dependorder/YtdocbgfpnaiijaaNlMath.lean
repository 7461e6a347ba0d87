/-
  The plain mathematics of layer 6 (nullable): which symbols may be nothing, by definition; a search that asks rules again; round by round. Nothing of the program is imported here.
-/
import Derived.Test.YtdocbgfpnaiijaaGrMath
namespace Go.Proofs.Ytdocbgfpnaiijaa.Nl
open Go.Proofs.Ytdocbgfpnaiijaa.Gr

/-- a symbol derives no token at all -/
inductive Null (rs : List Rl) : Int → Prop
  | of (r : Rl) (hr : r ∈ rs) (h : ∀ s, s ∈ r.2 → Null rs s) : Null rs r.1

theorem Null.some {rs : List Rl} {s : Int} (h : Null rs s) : ∃ r ∈ rs, r.1 = s ∧ ∀ x ∈ r.2, Null rs x := by
  cases h with
  | of r hr h => exact ⟨r, hr, rfl, h⟩
theorem Null.more {rs rs' : List Rl} (hs : ∀ r ∈ rs, r ∈ rs') {s : Int} (h : Null rs s) : Null rs' s := by
  induction h with
  | of r hr _ ih => exact .of r (hs r hr) ih

/-- is a symbol told of? -/
def isAt (b : List Bool) (s : Int) : Bool := decide (0 ≤ s) && b.getD s.toNat false
/-- are all? -/
def allIn (b : List Bool) (l : List Int) : Bool := l.all (isAt b)

theorem allIn_iff {b : List Bool} {l : List Int} : allIn b l = true ↔ ∀ s ∈ l, isAt b s = true := by simp [allIn]
theorem isAt_lt {b : List Bool} {s : Int} (h : isAt b s = true) : 0 ≤ s ∧ s < b.length := by
  simp only [isAt, Bool.and_eq_true, decide_eq_true_eq] at h
  refine ⟨h.1, ?_⟩
  rcases Nat.lt_or_ge s.toNat b.length with q | q
  · omega
  · rw [List.getD_eq_getElem?_getD, List.getElem?_eq_none q] at h; simp at h
theorem isAt_nat (b : List Bool) (i : Nat) : isAt b i = b.getD i false := by simp [isAt]
theorem isAt_get {b : List Bool} {s : Int} (h0 : 0 ≤ s) (h : s.toNat < b.length) : isAt b s = b[s.toNat] := by
  simp [isAt, h0, List.getD_eq_getElem?_getD, List.getElem?_eq_getElem h]

/-- how many are told -/
def cnt : List Bool → Nat
  | [] => 0
  | x :: r => (if x then 1 else 0) + cnt r
/-- no fewer are told -/
def Le (b c : List Bool) : Prop := b.length = c.length ∧ ∀ i, b.getD i false = true → c.getD i false = true

theorem Le.refl (b : List Bool) : Le b b := ⟨rfl, fun _ h => h⟩
theorem Le.trans {a b c : List Bool} (h : Le a b) (h' : Le b c) : Le a c := ⟨h.1.trans h'.1, fun i q => h'.2 i (h.2 i q)⟩
theorem Le.isAt {b c : List Bool} (h : Le b c) {s : Int} (q : isAt b s = true) : Nl.isAt c s = true := by
  simp only [Nl.isAt, Bool.and_eq_true] at q ⊢
  exact ⟨q.1, h.2 _ q.2⟩
theorem Le.allIn {b c : List Bool} (h : Le b c) {l : List Int} (q : allIn b l = true) : Nl.allIn c l = true :=
  allIn_iff.2 fun s hs => h.isAt (allIn_iff.1 q s hs)
theorem Le.drop {b c : List Bool} (h : Le b c) (T : Nat) : Le (b.drop T) (c.drop T) := by
  refine ⟨by rw [List.length_drop, List.length_drop, h.1], fun i q => ?_⟩
  rw [List.getD_eq_getElem?_getD, List.getElem?_drop, ← List.getD_eq_getElem?_getD] at q ⊢
  exact h.2 _ q
theorem Le.tail {x y : Bool} {b c : List Bool} (h : Le (x :: b) (y :: c)) : Le b c :=
  ⟨by simpa using h.1, fun i q => by simpa using h.2 (i + 1) (by simpa using q)⟩

theorem cnt_le : ∀ b : List Bool, cnt b ≤ b.length
  | [] => Nat.le_refl _
  | x :: r => by have := cnt_le r; simp only [cnt, List.length_cons]; split <;> omega
theorem cnt_mono : ∀ {b c : List Bool}, Le b c → cnt b ≤ cnt c
  | [], [], _ => Nat.le_refl _
  | [], _ :: _, h => by have := h.1; simp at this
  | _ :: _, [], h => by have := h.1; simp at this
  | x :: b, y :: c, h => by
    have h1 := cnt_mono h.tail
    have h2 := h.2 0
    simp only [List.getD_cons_zero] at h2
    simp only [cnt]
    cases x <;> cases y <;> simp at h2 ⊢ <;> omega
theorem cnt_lt : ∀ {b c : List Bool} (i : Nat), Le b c → b.getD i false = false → c.getD i false = true → cnt b < cnt c
  | [], [], _, _, _, h => by simp at h
  | [], _ :: _, _, h, _, _ => by have := h.1; simp at this
  | _ :: _, [], _, h, _, _ => by have := h.1; simp at this
  | x :: b, y :: c, i, h, h1, h2 => by
    cases i with
    | zero =>
      simp only [List.getD_cons_zero] at h1 h2
      subst h1; subst h2
      have := cnt_mono h.tail
      simp only [cnt]; simp; omega
    | succ i =>
      have h3 := cnt_lt i h.tail (by simpa using h1) (by simpa using h2)
      have h2 := h.2 0
      simp only [List.getD_cons_zero] at h2
      simp only [cnt]
      cases x <;> cases y <;> simp at h2 ⊢ <;> omega
theorem cnt_full : ∀ {b : List Bool}, b.length ≤ cnt b → ∀ i, i < b.length → b.getD i false = true
  | [], _, i, hi => by simp at hi
  | x :: r, h, i, hi => by
    have h0 := cnt_le r
    simp only [cnt, List.length_cons] at h hi
    cases x
    · simp at h; omega
    · cases i with
      | zero => rfl
      | succ i => simpa using cnt_full (b := r) (by simp at h; omega) i (by omega)

/-- one more is told -/
def tell (b : List Bool) (s : Int) : List Bool := b.set s.toNat true
theorem tell_len (b : List Bool) (s : Int) : (tell b s).length = b.length := by simp [tell]
theorem tell_le (b : List Bool) (s : Int) : Le b (tell b s) := by
  refine ⟨(tell_len b s).symm, fun i h => ?_⟩
  rw [List.getD_eq_getElem?_getD] at h ⊢
  unfold tell
  rw [List.getElem?_set]
  by_cases e : s.toNat = i
  · subst e
    rw [if_pos rfl]
    rcases Nat.lt_or_ge s.toNat b.length with q | q
    · rw [if_pos q]; rfl
    · rw [List.getElem?_eq_none q] at h; simp at h
  · rw [if_neg e]; exact h
theorem tell_at {b : List Bool} {s : Int} (h0 : 0 ≤ s) (h : s < b.length) : isAt (tell b s) s = true := by
  have q : s.toNat < b.length := by omega
  simp [isAt, h0, tell, List.getD_eq_getElem?_getD, q]
theorem tell_back {b : List Bool} {s x : Int} (hs : 0 ≤ s) (h : isAt (tell b s) x = true) : x = s ∨ isAt b x = true := by
  simp only [isAt, Bool.and_eq_true, decide_eq_true_eq, List.getD_eq_getElem?_getD, tell, List.getElem?_set] at h ⊢
  obtain ⟨h0, h1⟩ := h
  by_cases e : s.toNat = x.toNat
  · exact .inl (by omega)
  · rw [if_neg e] at h1; exact .inr ⟨h0, h1⟩
theorem tell_cnt {T : Nat} {b : List Bool} {s : Int} (hT : (T : Int) ≤ s) (h : s < b.length) (hn : isAt b s = false) : cnt (b.drop T) < cnt ((tell b s).drop T) := by
  have q : s.toNat < b.length := by omega
  refine cnt_lt (s.toNat - T) ((tell_le b s).drop T) ?_ ?_
  · rw [List.getD_eq_getElem?_getD, List.getElem?_drop, ← List.getD_eq_getElem?_getD, show T + (s.toNat - T) = s.toNat from by omega]
    have h0 : 0 ≤ s := by omega
    simpa [isAt, h0] using hn
  · rw [List.getD_eq_getElem?_getD, List.getElem?_drop, ← List.getD_eq_getElem?_getD, show T + (s.toNat - T) = s.toNat from by omega]
    simp [tell, List.getD_eq_getElem?_getD, q]

/-- rules fit: left sides are nonterminals, right sides symbols -/
structure Fit (T n : Nat) (rs : List Rl) : Prop where
  left : ∀ r ∈ rs, (T : Int) ≤ r.1 ∧ r.1 < n
  right : ∀ r ∈ rs, ∀ s ∈ r.2, 0 ≤ s ∧ s < n
theorem Fit.zero {T n : Nat} {rs : List Rl} (h : Fit T n rs) : Fit 0 n rs := ⟨fun r hr => ⟨by have := (h.left r hr).1; simp; omega, (h.left r hr).2⟩, h.right⟩

/-- nothing more follows -/
def Closed (rs : List Rl) (b : List Bool) : Prop := ∀ r ∈ rs, allIn b r.2 = true → isAt b r.1 = true
/-- nothing false is told -/
def Sound (rs : List Rl) (b : List Bool) : Prop := ∀ x, isAt b x = true → Null rs x

theorem Closed.all {rs : List Rl} {b : List Bool} (h : Closed rs b) {s : Int} (q : Null rs s) : isAt b s = true := by
  induction q with
  | of r hr _ ih => exact h r hr (allIn_iff.2 ih)

open Classical in
/-- of each symbol, whether it derives no token at all -/
noncomputable def nulls (rs : List Rl) (n : Nat) : List Bool := (List.range n).map fun (i : Nat) => decide (Null rs (i : Int))

theorem nulls_len (rs : List Rl) (n : Nat) : (nulls rs n).length = n := by simp [nulls]
theorem nulls_at {T n : Nat} {rs : List Rl} (hf : Fit T n rs) (s : Int) : isAt (nulls rs n) s = true ↔ Null rs s := by
  constructor
  · intro h
    obtain ⟨h0, h1⟩ := isAt_lt h
    rw [nulls_len] at h1
    rw [isAt_get h0 (by rw [nulls_len]; omega)] at h
    simp only [nulls, List.getElem_map, List.getElem_range, decide_eq_true_eq] at h
    rwa [show ((s.toNat : Nat) : Int) = s from by omega] at h
  · intro h
    obtain ⟨r, hr, rfl, _⟩ := h.some
    obtain ⟨h0, h1⟩ := hf.left r hr
    rw [isAt_get (by omega) (by rw [nulls_len]; omega)]
    simp only [nulls, List.getElem_map, List.getElem_range, decide_eq_true_eq]
    rwa [show ((r.1.toNat : Nat) : Int) = r.1 from by omega]
theorem nulls_is {rs : List Rl} {n : Nat} {b : List Bool} (hl : b.length = n) (hs : Sound rs b) (hc : Closed rs b) : b = nulls rs n := by
  refine List.ext_getElem (by rw [nulls_len, hl]) fun i h1 h2 => ?_
  have e : isAt b (i : Int) = b[i] := by rw [isAt_get (by omega) (by simpa using h1)]; simp
  rw [← e, Bool.eq_iff_iff]
  simp only [nulls, List.getElem_map, List.getElem_range, decide_eq_true_eq]
  exact ⟨hs i, fun q => hc.all q⟩
theorem nulls_closed {T n : Nat} {rs : List Rl} (hf : Fit T n rs) : Closed rs (nulls rs n) := fun r hr h =>
  (nulls_at hf _).2 (.of r hr fun s hs => (nulls_at hf _).1 (allIn_iff.1 h s hs))

theorem sound_none (rs : List Rl) (n : Nat) : Sound rs (List.replicate n false) := fun x h => by
  simp only [isAt, Bool.and_eq_true, List.getD_eq_getElem?_getD, List.getElem?_replicate] at h
  obtain ⟨_, h⟩ := h
  split at h <;> simp at h
theorem sound_tell {T n : Nat} {rs : List Rl} (hf : Fit T n rs) {b c : List Bool} (hb : Sound rs b) (hc : Sound rs c) {r : Rl} (hr : r ∈ rs) (h : allIn b r.2 = true) : Sound rs (tell c r.1) := fun x hx => by
  rcases tell_back (by have := (hf.left r hr).1; omega) hx with rfl | q
  · exact .of r hr fun s hs => hb s (allIn_iff.1 h s hs)
  · exact hc x q

/-! ### the search -/

/-- what is known so far, and what has not been followed up -/
structure St where
  is : List Bool
  q : List Int
/-- one rule is asked -/
def ask (s : St) (r : Rl) : St := if isAt s.is r.1 = false ∧ allIn s.is r.2 = true then ⟨tell s.is r.1, s.q ++ [r.1]⟩ else s
/-- the rules with a symbol are asked -/
def askIf (x : Int) (s : St) (r : Rl) : St := if x ∈ r.2 then ask s r else s

/-- the search, amid asking: 'todo' are the rules that are still to be asked -/
structure Inv (T n : Nat) (rs : List Rl) (todo : Rl → Prop) (s : St) : Prop where
  len : s.is.length = n
  sound : Sound rs s.is
  few : s.q.length ≤ cnt (s.is.drop T)
  q : ∀ x ∈ s.q, (T : Int) ≤ x ∧ x < n
  prog : ∀ r ∈ rs, allIn s.is r.2 = true → isAt s.is r.1 = true ∨ (∃ x ∈ r.2, x ∈ s.q) ∨ todo r

/-- what is left to do -/
def left (T n : Nat) (s : St) : Nat := 2 * (n - T - cnt (s.is.drop T)) + s.q.length

theorem Inv.room {T n : Nat} {rs : List Rl} {todo : Rl → Prop} {s : St} (h : Inv T n rs todo s) : s.q.length ≤ n - T := by
  have := cnt_le (s.is.drop T)
  rw [List.length_drop, h.len] at this
  exact Nat.le_trans h.few this

theorem Inv.start {T n : Nat} {rs : List Rl} : Inv T n rs (· ∈ rs) ⟨List.replicate n false, []⟩ :=
  ⟨by simp, sound_none rs n, Nat.zero_le _, fun x hx => by simp at hx, fun r hr _ => .inr (.inr hr)⟩

theorem Inv.ask {T n : Nat} {rs : List Rl} {todo : Rl → Prop} {s : St} (hf : Fit T n rs) (h : Inv T n rs todo s) {r : Rl} (hr : r ∈ rs) :
    Inv T n rs (fun x => todo x ∧ x ≠ r) (Nl.ask s r) ∧ left T n (Nl.ask s r) ≤ left T n s ∧ (isAt s.is r.1 = false ∧ allIn s.is r.2 = true → s.q.length < n - T) := by
  obtain ⟨l0, l1⟩ := hf.left r hr
  unfold Nl.ask
  by_cases c : isAt s.is r.1 = false ∧ allIn s.is r.2 = true
  · rw [if_pos c]
    have hc := tell_cnt l0 (by rw [h.len]; exact l1) c.1
    have hq : (s.q ++ [r.1]).length = s.q.length + 1 := by simp
    have hI : Inv T n rs (fun x => todo x ∧ x ≠ r) ⟨tell s.is r.1, s.q ++ [r.1]⟩ := by
      refine ⟨by rw [tell_len]; exact h.len, sound_tell hf h.sound h.sound hr c.2, ?_, ?_, ?_⟩
      · show (s.q ++ [r.1]).length ≤ cnt ((tell s.is r.1).drop T)
        have := h.few
        rw [hq]; omega
      · intro x hx
        rcases List.mem_append.1 hx with hx | hx
        · exact h.q x hx
        · simp at hx; subst hx; exact ⟨l0, l1⟩
      · intro x hx ha
        by_cases e : allIn s.is x.2 = true
        · rcases h.prog x hx e with p | ⟨y, hy, p⟩ | p
          · exact .inl ((tell_le _ _).isAt p)
          · exact .inr (.inl ⟨y, hy, List.mem_append.2 (.inl p)⟩)
          · by_cases ex : x = r
            · subst ex; exact .inl (tell_at (by omega) (by rw [h.len]; exact l1))
            · exact .inr (.inr ⟨p, ex⟩)
        · refine .inr (.inl ⟨r.1, ?_, by simp⟩)
          rw [allIn_iff] at e ha
          obtain ⟨y, hy⟩ := Classical.not_forall.1 e
          obtain ⟨hy, hn⟩ := Classical.not_imp.1 hy
          rcases tell_back (by omega) (ha y hy) with rfl | p
          · exact hy
          · exact absurd p hn
    have hr1 := hI.room
    have hr2 := cnt_le ((tell s.is r.1).drop T)
    rw [List.length_drop, tell_len, h.len] at hr2
    refine ⟨hI, ?_, fun _ => by simp only [hq] at hr1; omega⟩
    unfold left
    simp only [hq]
    omega
  · rw [if_neg c]
    refine ⟨⟨h.len, h.sound, h.few, h.q, fun x hx ha => ?_⟩, Nat.le_refl _, fun q => absurd q c⟩
    rcases h.prog x hx ha with p | p | p
    · exact .inl p
    · exact .inr (.inl p)
    · by_cases ex : x = r
      · subst ex
        left
        cases hb : isAt s.is x.1
        · exact absurd ⟨hb, ha⟩ c
        · rfl
      · exact .inr (.inr ⟨p, ex⟩)

/-- the rules that are still to be asked, behind the first k -/
theorem Inv.beginStep {T n : Nat} {rs : List Rl} {s : St} (hf : Fit T n rs) {k : Nat} (hk : k < rs.length) (h : Inv T n rs (· ∈ rs.drop k) s) : Inv T n rs (· ∈ rs.drop (k + 1)) (Nl.ask s rs[k]) := by
  have h1 := (h.ask hf (List.getElem_mem hk)).1
  refine ⟨h1.len, h1.sound, h1.few, h1.q, fun r hr ha => ?_⟩
  rcases h1.prog r hr ha with p | p | ⟨p, q⟩
  · exact .inl p
  · exact .inr (.inl p)
  · rw [List.drop_eq_getElem_cons hk] at p
    rcases List.mem_cons.1 p with p | p
    · exact absurd p q
    · exact .inr (.inr p)
theorem Inv.againStep {T n : Nat} {rs : List Rl} {s : St} {x : Int} (hf : Fit T n rs) {k : Nat} (hk : k < rs.length) (h : Inv T n rs (fun r => x ∈ r.2 ∧ r ∈ rs.drop k) s) :
    Inv T n rs (fun r => x ∈ r.2 ∧ r ∈ rs.drop (k + 1)) (Nl.askIf x s rs[k]) ∧ left T n (Nl.askIf x s rs[k]) ≤ left T n s := by
  unfold askIf
  by_cases c : x ∈ rs[k].2
  · rw [if_pos c]
    obtain ⟨h1, h2, _⟩ := h.ask hf (List.getElem_mem hk)
    refine ⟨⟨h1.len, h1.sound, h1.few, h1.q, fun r hr ha => ?_⟩, h2⟩
    rcases h1.prog r hr ha with p | p | ⟨⟨p0, p⟩, q⟩
    · exact .inl p
    · exact .inr (.inl p)
    · rw [List.drop_eq_getElem_cons hk] at p
      rcases List.mem_cons.1 p with p | p
      · exact absurd p q
      · exact .inr (.inr ⟨p0, p⟩)
  · rw [if_neg c]
    refine ⟨⟨h.len, h.sound, h.few, h.q, fun r hr ha => ?_⟩, Nat.le_refl _⟩
    rcases h.prog r hr ha with p | p | ⟨p0, p⟩
    · exact .inl p
    · exact .inr (.inl p)
    · rw [List.drop_eq_getElem_cons hk] at p
      rcases List.mem_cons.1 p with p | p
      · subst p; exact absurd p0 c
      · exact .inr (.inr ⟨p0, p⟩)
theorem Inv.begun {T n : Nat} {rs : List Rl} {s : St} (h : Inv T n rs (· ∈ rs.drop rs.length) s) : Inv T n rs (fun _ => False) s :=
  ⟨h.len, h.sound, h.few, h.q, fun r hr ha => by have := h.prog r hr ha; simpa using this⟩
theorem Inv.again {T n : Nat} {rs : List Rl} {s : St} {x : Int} (h : Inv T n rs (fun r => x ∈ r.2 ∧ r ∈ rs.drop rs.length) s) : Inv T n rs (fun _ => False) s :=
  ⟨h.len, h.sound, h.few, h.q, fun r hr ha => by have := h.prog r hr ha; simpa using this⟩
/-- one is taken, to be followed up -/
theorem Inv.take {T n : Nat} {rs : List Rl} {b : List Bool} {x : Int} {q : List Int} (h : Inv T n rs (fun _ => False) ⟨b, x :: q⟩) :
    Inv T n rs (fun r => x ∈ r.2 ∧ r ∈ rs.drop 0) ⟨b, q⟩ ∧ left T n ⟨b, q⟩ < left T n ⟨b, x :: q⟩ := by
  refine ⟨⟨h.len, h.sound, ?_, fun y hy => h.q y (List.mem_cons_of_mem _ hy), fun r hr ha => ?_⟩, by unfold left; simp⟩
  · have := h.few
    simp only [List.length_cons] at this
    show q.length ≤ cnt (b.drop T)
    omega
  · rcases h.prog r hr ha with p | ⟨y, hy, p⟩ | p
    · exact .inl p
    · rcases List.mem_cons.1 p with p | p
      · subst p; exact .inr (.inr ⟨hy, by simpa using hr⟩)
      · exact .inr (.inl ⟨y, hy, p⟩)
    · exact p.elim
/-- nothing is left -/
theorem Inv.done {T n : Nat} {rs : List Rl} {b : List Bool} (h : Inv T n rs (fun _ => False) ⟨b, []⟩) : b = nulls rs n := by
  refine nulls_is h.len h.sound fun r hr ha => ?_
  rcases h.prog r hr ha with p | ⟨y, _, p⟩ | p
  · exact p
  · simp at p
  · exact p.elim

/-! ### round by round -/

/-- a rule tells its left side -/
def by1 (b : List Bool) (r : Rl) : List Bool := if allIn b r.2 = true then tell b r.1 else b
def pass (rs : List Rl) (b : List Bool) : List Bool := rs.foldl by1 b
/-- the same, by what was known at the round's begin -/
def by2 (h : List Bool) (b : List Bool) (r : Rl) : List Bool := if allIn h r.2 = true then tell b r.1 else b
def pass2 (rs : List Rl) (b : List Bool) : List Bool := rs.foldl (by2 b) b

theorem by1_le (b : List Bool) (r : Rl) : Le b (by1 b r) := by
  unfold by1; split
  · exact tell_le _ _
  · exact Le.refl _
theorem by2_le (h b : List Bool) (r : Rl) : Le b (by2 h b r) := by
  unfold by2; split
  · exact tell_le _ _
  · exact Le.refl _
theorem pass_le (rs : List Rl) (b : List Bool) : Le b (pass rs b) := by
  unfold pass
  induction rs generalizing b with
  | nil => exact Le.refl _
  | cons r rs ih => exact (by1_le b r).trans (ih _)
theorem fold2_le (h : List Bool) (rs : List Rl) (b : List Bool) : Le b (rs.foldl (by2 h) b) := by
  induction rs generalizing b with
  | nil => exact Le.refl _
  | cons r rs ih => exact (by2_le h b r).trans (ih _)
theorem pass_has {n : Nat} (rs : List Rl) (b : List Bool) (hl : b.length = n) (r : Rl) (hr : r ∈ rs) (h0 : 0 ≤ r.1 ∧ r.1 < n) (ha : allIn b r.2 = true) : isAt (pass rs b) r.1 = true := by
  unfold pass
  induction rs generalizing b with
  | nil => simp at hr
  | cons x rs ih =>
    rcases List.mem_cons.1 hr with e | hr
    · subst e
      refine (pass_le rs _).isAt (?_ : isAt (by1 b r) r.1 = true)
      unfold by1; rw [if_pos ha]
      exact tell_at h0.1 (by rw [hl]; exact h0.2)
    · exact ih (by1 b x) (by rw [← (by1_le b x).1, hl]) hr ((by1_le b x).allIn ha)
theorem fold2_has {n : Nat} (h : List Bool) (rs : List Rl) (b : List Bool) (hl : b.length = n) (r : Rl) (hr : r ∈ rs) (h0 : 0 ≤ r.1 ∧ r.1 < n) (ha : allIn h r.2 = true) : isAt (rs.foldl (by2 h) b) r.1 = true := by
  induction rs generalizing b with
  | nil => simp at hr
  | cons x rs ih =>
    rcases List.mem_cons.1 hr with e | hr
    · subst e
      refine (fold2_le h rs _).isAt (?_ : isAt (by2 h b r) r.1 = true)
      unfold by2; rw [if_pos ha]
      exact tell_at h0.1 (by rw [hl]; exact h0.2)
    · exact ih (by2 h b x) (by rw [← (by2_le h b x).1, hl]) hr
theorem pass_sound {T n : Nat} {rs : List Rl} (hf : Fit T n rs) (rs' : List Rl) (hr : ∀ r ∈ rs', r ∈ rs) (b : List Bool) (h : Sound rs b) : Sound rs (pass rs' b) := by
  unfold pass
  induction rs' generalizing b with
  | nil => exact h
  | cons x rs' ih =>
    refine ih (fun r hm => hr r (List.mem_cons_of_mem _ hm)) _ ?_
    unfold by1; split
    · rename_i c; exact sound_tell hf h h (hr x (List.mem_cons_self ..)) c
    · exact h
theorem fold2_sound {T n : Nat} {rs : List Rl} (hf : Fit T n rs) (rs' : List Rl) (hr : ∀ r ∈ rs', r ∈ rs) (h b : List Bool) (hh : Sound rs h) (hb : Sound rs b) : Sound rs (rs'.foldl (by2 h) b) := by
  induction rs' generalizing b with
  | nil => exact hb
  | cons x rs' ih =>
    refine ih (fun r hm => hr r (List.mem_cons_of_mem _ hm)) _ ?_
    unfold by2; split
    · rename_i c; exact sound_tell hf hh hb (hr x (List.mem_cons_self ..)) c
    · exact hb
theorem tell_same {b : List Bool} {s : Int} (h : isAt b s = true) : tell b s = b := by
  obtain ⟨h0, h1⟩ := isAt_lt h
  have q : s.toNat < b.length := by omega
  rw [isAt_get h0 q] at h
  unfold tell
  rw [← h, List.set_getElem_self]
theorem pass_closed {rs : List Rl} {b : List Bool} (h : Closed rs b) (rs' : List Rl) (hr : ∀ r ∈ rs', r ∈ rs) : pass rs' b = b := by
  unfold pass
  induction rs' with
  | nil => rfl
  | cons x rs' ih =>
    have e : by1 b x = b := by
      unfold by1; split
      · rename_i c; exact tell_same (h x (hr x (List.mem_cons_self ..)) c)
      · rfl
    rw [List.foldl_cons, e]
    exact ih fun r hm => hr r (List.mem_cons_of_mem _ hm)
theorem pass2_closed {rs : List Rl} {b : List Bool} (h : Closed rs b) (rs' : List Rl) (hr : ∀ r ∈ rs', r ∈ rs) : rs'.foldl (by2 b) b = b := by
  induction rs' with
  | nil => rfl
  | cons x rs' ih =>
    have e : by2 b b x = b := by
      unfold by2; split
      · rename_i c; exact tell_same (h x (hr x (List.mem_cons_self ..)) c)
      · rfl
    rw [List.foldl_cons, e]
    exact ih fun r hm => hr r (List.mem_cons_of_mem _ hm)

/-- amid the rounds: k have been -/
structure Rd (T n : Nat) (rs : List Rl) (k : Nat) (b : List Bool) : Prop where
  len : b.length = n
  sound : Sound rs b
  far : Closed rs b ∨ k ≤ cnt (b.drop T)
theorem Rd.start {T n : Nat} {rs : List Rl} : Rd T n rs 0 (List.replicate n false) := ⟨by simp, sound_none rs n, .inr (Nat.zero_le _)⟩
theorem far_step {T n : Nat} {rs : List Rl} (hf : Fit T n rs) {b c : List Bool} (hle : Le b c) (hh : ∀ r ∈ rs, allIn b r.2 = true → isAt c r.1 = true) (hnc : ¬ Closed rs b) : cnt (b.drop T) < cnt (c.drop T) := by
  obtain ⟨r, hr⟩ := Classical.not_forall.1 hnc
  obtain ⟨hr, q⟩ := Classical.not_imp.1 hr
  obtain ⟨ha, hn⟩ := Classical.not_imp.1 q
  obtain ⟨l0, l1⟩ := hf.left r hr
  have h0 : 0 ≤ r.1 := by omega
  have h1 := hh r hr ha
  refine cnt_lt (r.1.toNat - T) (hle.drop T) ?_ ?_
  · rw [List.getD_eq_getElem?_getD, List.getElem?_drop, ← List.getD_eq_getElem?_getD, show T + (r.1.toNat - T) = r.1.toNat from by omega]
    simpa [isAt, h0] using hn
  · rw [List.getD_eq_getElem?_getD, List.getElem?_drop, ← List.getD_eq_getElem?_getD, show T + (r.1.toNat - T) = r.1.toNat from by omega]
    simpa [isAt, h0] using h1
theorem Rd.step {T n : Nat} {rs : List Rl} (hf : Fit T n rs) {k : Nat} {b : List Bool} (h : Rd T n rs k b) : Rd T n rs (k + 1) (pass rs b) := by
  have hle := pass_le rs b
  refine ⟨by rw [← hle.1, h.len], pass_sound hf rs (fun _ q => q) b h.sound, ?_⟩
  by_cases hc : Closed rs b
  · rw [pass_closed hc rs (fun _ q => q)]; exact .inl hc
  · right
    have h1 := h.far.resolve_left hc
    have := far_step hf hle (fun r hr ha => pass_has rs b h.len r hr ⟨by have := (hf.left r hr).1; omega, (hf.left r hr).2⟩ ha) hc
    omega
theorem Rd.step2 {T n : Nat} {rs : List Rl} (hf : Fit T n rs) {k : Nat} {b : List Bool} (h : Rd T n rs k b) : Rd T n rs (k + 1) (pass2 rs b) := by
  have hle : Le b (pass2 rs b) := fold2_le b rs b
  refine ⟨by rw [← hle.1, h.len], fold2_sound hf rs (fun _ q => q) b b h.sound h.sound, ?_⟩
  by_cases hc : Closed rs b
  · have e : pass2 rs b = b := pass2_closed hc rs (fun _ q => q)
    rw [e]; exact .inl hc
  · right
    have h1 := h.far.resolve_left hc
    have := far_step hf hle (fun r hr ha => fold2_has b rs b h.len r hr ⟨by have := (hf.left r hr).1; omega, (hf.left r hr).2⟩ ha) hc
    omega
theorem Rd.done {T n : Nat} {rs : List Rl} (hf : Fit T n rs) {k : Nat} {b : List Bool} (h : Rd T n rs k b) (hk : n - T ≤ k) : b = nulls rs n := by
  refine nulls_is h.len h.sound ?_
  rcases h.far with q | q
  · exact q
  · intro r hr _
    obtain ⟨l0, l1⟩ := hf.left r hr
    have h0 : 0 ≤ r.1 := by omega
    have := cnt_full (b := b.drop T) (by rw [List.length_drop, h.len]; omega) (r.1.toNat - T) (by rw [List.length_drop, h.len]; omega)
    rw [List.getD_eq_getElem?_getD, List.getElem?_drop, ← List.getD_eq_getElem?_getD, show T + (r.1.toNat - T) = r.1.toNat from by omega] at this
    simpa [isAt, h0] using this
/-- so many rounds -/
def rounds (rs : List Rl) (n : Nat) : Nat → List Bool
  | 0 => List.replicate n false
  | k + 1 => pass rs (rounds rs n k)
theorem rounds_is {T n : Nat} {rs : List Rl} (hf : Fit T n rs) {k : Nat} (hk : n - T ≤ k) : rounds rs n k = nulls rs n := by
  have : ∀ k, Rd T n rs k (rounds rs n k) := by
    intro k
    induction k with
    | zero => exact Rd.start
    | succ k ih => exact ih.step hf
  exact (this k).done hf hk
end Go.Proofs.Ytdocbgfpnaiijaa.Nl
