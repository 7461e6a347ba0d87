/-
  The plain mathematics of layer 7 (useful): what is reached, what is productive, what is useful, as what follows by rules of another kind (NlMath). Nothing of the program is imported here.
-/
import Derived.Test.YtkcohemphaafkaaNlMath
namespace Go.Proofs.Ytkcohemphaafkaa.Us
open Go.Proofs.Ytkcohemphaafkaa.Gr Go.Proofs.Ytkcohemphaafkaa.Nl

/-- a rule's left side leads to each symbol of its right side -/
def steps (r : Rl) : List Rl := r.2.map fun s => (s, [r.1])
def flat (rs : List Rl) : List Rl := rs.flatMap steps
/-- what is reached from x -/
def reachC (rs : List Rl) (x : Int) : List Rl := (x, []) :: flat rs
def terms (T : Nat) : List Rl := (List.range T).map fun (t : Nat) => ((t : Int), [])
/-- what is productive -/
def prodC (T : Nat) (rs : List Rl) : List Rl := terms T ++ rs

theorem mem_flat {rs : List Rl} {c : Rl} : c ∈ flat rs ↔ ∃ r ∈ rs, ∃ s ∈ r.2, c = (s, [r.1]) := by
  simp only [flat, steps, List.mem_flatMap, List.mem_map]
  constructor
  · rintro ⟨r, hr, s, hs, rfl⟩; exact ⟨r, hr, s, hs, rfl⟩
  · rintro ⟨r, hr, s, hs, rfl⟩; exact ⟨r, hr, s, hs, rfl⟩
theorem mem_terms {T : Nat} {c : Rl} : c ∈ terms T ↔ ∃ t : Nat, t < T ∧ c = ((t : Int), []) := by
  simp only [terms, List.mem_map, List.mem_range]
  constructor
  · rintro ⟨t, ht, rfl⟩; exact ⟨t, ht, rfl⟩
  · rintro ⟨t, ht, rfl⟩; exact ⟨t, ht, rfl⟩
theorem fit_reach {T n : Nat} {rs : List Rl} (h : Fit T n rs) {x : Int} (hx : 0 ≤ x ∧ x < n) : Fit 0 n (reachC rs x) := by
  refine ⟨fun c hc => ?_, fun c hc s hs => ?_⟩
  · rcases List.mem_cons.1 hc with rfl | hc
    · simpa using hx
    · obtain ⟨r, hr, s, hs, rfl⟩ := mem_flat.1 hc
      simpa using h.right r hr s hs
  · rcases List.mem_cons.1 hc with rfl | hc
    · simp at hs
    · obtain ⟨r, hr, y, hy, rfl⟩ := mem_flat.1 hc
      simp at hs; subst hs
      have := h.left r hr
      omega
theorem fit_prod {T n : Nat} {rs : List Rl} (h : Fit T n rs) (hT : T ≤ n) : Fit 0 n (prodC T rs) := by
  refine ⟨fun c hc => ?_, fun c hc s hs => ?_⟩
  · rcases List.mem_append.1 hc with hc | hc
    · obtain ⟨t, ht, rfl⟩ := mem_terms.1 hc
      simp only; omega
    · have := h.left c hc
      simp only [Int.natCast_zero]; omega
  · rcases List.mem_append.1 hc with hc | hc
    · obtain ⟨t, ht, rfl⟩ := mem_terms.1 hc
      simp at hs
    · exact h.right c hc s hs

/-! ### the search -/

def find (s : St) (x : Int) : St := if isAt s.is x = false then ⟨tell s.is x, s.q ++ [x]⟩ else s
theorem ask_find {s : St} {r : Rl} (h : allIn s.is r.2 = true) : Nl.ask s r = find s r.1 := by
  unfold Nl.ask find
  by_cases c : isAt s.is r.1 = false
  · rw [if_pos ⟨c, h⟩, if_pos c]
  · rw [if_neg (fun q => c q.1), if_neg c]
theorem ask_no {s : St} {r : Rl} (h : allIn s.is r.2 = false) : Nl.ask s r = s := by
  unfold Nl.ask; rw [if_neg (by simp [h])]

/-- the search, amid finding -/
structure Sv (n : Nat) (cs : List Rl) (todo : Rl → Prop) (s : St) : Prop where
  inv : Inv 0 n cs todo s
  told : ∀ x ∈ s.q, isAt s.is x = true

theorem Sv.weaken {n : Nat} {cs : List Rl} {todo todo' : Rl → Prop} {s : St} (h : Sv n cs todo s) (hw : ∀ r ∈ cs, todo r → todo' r) : Sv n cs todo' s :=
  ⟨⟨h.inv.len, h.inv.sound, h.inv.few, h.inv.q, fun r hr ha => (h.inv.prog r hr ha).imp_right (fun q => q.imp_right (hw r hr))⟩, h.told⟩
theorem Sv.start {n : Nat} {cs : List Rl} : Sv n cs (· ∈ cs) ⟨List.replicate n false, []⟩ := ⟨Inv.start, fun x hx => by simp at hx⟩
theorem Sv.ask {n : Nat} {cs : List Rl} {todo : Rl → Prop} {s : St} (hf : Fit 0 n cs) (h : Sv n cs todo s) {r : Rl} (hr : r ∈ cs) :
    Sv n cs (fun x => todo x ∧ x ≠ r) (Nl.ask s r) ∧ left 0 n (Nl.ask s r) ≤ left 0 n s ∧ (isAt s.is r.1 = false ∧ allIn s.is r.2 = true → s.q.length < n) := by
  obtain ⟨h1, h2, h3⟩ := h.inv.ask hf hr
  refine ⟨⟨h1, ?_⟩, h2, h3⟩
  obtain ⟨l0, l1⟩ := hf.left r hr
  unfold Nl.ask
  by_cases c : isAt s.is r.1 = false ∧ allIn s.is r.2 = true
  · rw [if_pos c]
    intro x hx
    rcases List.mem_append.1 hx with hx | hx
    · exact (tell_le _ _).isAt (h.told x hx)
    · simp at hx; subst hx; exact tell_at (by omega) (by rw [h.inv.len]; exact l1)
  · rw [if_neg c]; exact h.told
/-- a symbol is found, by a rule all of which is told -/
theorem Sv.find {n : Nat} {cs : List Rl} {todo : Rl → Prop} {s : St} (hf : Fit 0 n cs) (h : Sv n cs todo s) {r : Rl} (hr : r ∈ cs) (ha : allIn s.is r.2 = true) :
    Sv n cs (fun x => todo x ∧ x ≠ r) (Us.find s r.1) ∧ left 0 n (Us.find s r.1) ≤ left 0 n s ∧ (isAt s.is r.1 = false → s.q.length < n) := by
  have h1 := h.ask hf hr
  rw [ask_find ha] at h1
  exact ⟨h1.1, h1.2.1, fun q => h1.2.2 ⟨q, ha⟩⟩
theorem Sv.take {n : Nat} {cs : List Rl} {b : List Bool} {x : Int} {q : List Int} (h : Sv n cs (fun _ => False) ⟨b, x :: q⟩) :
    Sv n cs (fun r => x ∈ r.2) ⟨b, q⟩ ∧ left 0 n ⟨b, q⟩ < left 0 n ⟨b, x :: q⟩ ∧ isAt b x = true := by
  obtain ⟨h1, h2⟩ := h.inv.take
  have h3 : Sv n cs (fun r => x ∈ r.2 ∧ r ∈ cs.drop 0) ⟨b, q⟩ := ⟨h1, fun y hy => h.told y (List.mem_cons_of_mem _ hy)⟩
  exact ⟨h3.weaken fun r _ hr => hr.1, h2, h.told x (List.mem_cons_self ..)⟩
theorem Sv.done {n : Nat} {cs : List Rl} {b : List Bool} (h : Sv n cs (fun _ => False) ⟨b, []⟩) : b = nulls cs n := h.inv.done

/-- 'find' tells no less -/
theorem find_le (s : St) (x : Int) : Le s.is (find s x).is := by
  unfold find; split
  · exact tell_le _ _
  · exact Le.refl _

/-! ### round by round, behind some that are told -/

theorem by1_told {b : List Bool} {r : Rl} (h : isAt b r.1 = true) : by1 b r = b := by
  unfold by1; split
  · exact tell_same h
  · rfl
theorem pass_told {b : List Bool} (pre rs : List Rl) (h : ∀ r ∈ pre, isAt b r.1 = true) : pass (pre ++ rs) b = pass rs b := by
  unfold pass
  rw [List.foldl_append]
  congr 1
  induction pre with
  | nil => rfl
  | cons r pre ih =>
    rw [List.foldl_cons, by1_told (h r (List.mem_cons_self ..))]
    exact ih fun x hx => h x (List.mem_cons_of_mem _ hx)
/-- amid rounds over some of the rules, the others being told -/
structure Rt (n : Nat) (pre rs : List Rl) (k : Nat) (b : List Bool) : Prop where
  rd : Rd 0 n (pre ++ rs) k b
  pre : ∀ r ∈ pre, isAt b r.1 = true
theorem Rt.step {n : Nat} {pre rs : List Rl} (hf : Fit 0 n (pre ++ rs)) {k : Nat} {b : List Bool} (h : Rt n pre rs k b) : Rt n pre rs (k + 1) (pass rs b) := by
  have h1 := h.rd.step hf
  rw [pass_told pre rs h.pre] at h1
  exact ⟨h1, fun r hr => (pass_le rs b).isAt (h.pre r hr)⟩
theorem Rt.done {n : Nat} {pre rs : List Rl} (hf : Fit 0 n (pre ++ rs)) {k : Nat} {b : List Bool} (h : Rt n pre rs k b) (hk : n ≤ k) : b = nulls (pre ++ rs) n := h.rd.done hf hk
theorem Rt.start {n : Nat} {pre rs : List Rl} {b : List Bool} (hl : b.length = n) (hs : Sound (pre ++ rs) b) (hp : ∀ r ∈ pre, isAt b r.1 = true) : Rt n pre rs 0 b :=
  ⟨⟨hl, hs, .inr (Nat.zero_le _)⟩, hp⟩

/-- 'x' alone is told -/
theorem start_reach {T n : Nat} {rs : List Rl} (hf : Fit T n rs) {x : Int} (hx : 0 ≤ x ∧ x < n) : Rt n [(x, [])] (flat rs) 0 (tell (List.replicate n false) x) := by
  have hF : Fit 0 n ([(x, [])] ++ flat rs) := fit_reach hf hx
  refine Rt.start (by simp [tell_len]) ?_ ?_
  · exact sound_tell (r := (x, [])) hF (sound_none _ n) (sound_none _ n) (by simp) rfl
  · intro r hr
    simp at hr; subst hr
    exact tell_at hx.1 (by simpa using hx.2)
/-- the first k are told -/
def firsts (n k : Nat) : List Bool := List.replicate k true ++ List.replicate (n - k) false
theorem firsts_len {n k : Nat} (h : k ≤ n) : (firsts n k).length = n := by simp [firsts]; omega
theorem firsts_zero (n : Nat) : firsts n 0 = List.replicate n false := by simp [firsts]
theorem firsts_tell {n k : Nat} (h : k < n) : tell (firsts n k) (k : Int) = firsts n (k + 1) := by
  unfold tell firsts
  rw [show n - k = (n - (k + 1)) + 1 from by omega, List.replicate_succ (n := n - (k + 1)), Int.toNat_natCast, List.set_append_right _ _ (by simp), List.replicate_succ' (n := k)]
  simp
theorem firsts_at {n k : Nat} (x : Int) (h : isAt (firsts n k) x = true) : 0 ≤ x ∧ x < k := by
  simp only [isAt, Bool.and_eq_true, decide_eq_true_eq, firsts, List.getD_eq_getElem?_getD, List.getElem?_append, List.getElem?_replicate, List.length_replicate] at h
  obtain ⟨h0, h1⟩ := h
  refine ⟨h0, ?_⟩
  by_cases q : x.toNat < k
  · omega
  · rw [if_neg q] at h1
    split at h1 <;> simp at h1
theorem firsts_is {n k : Nat} (x : Int) (h : 0 ≤ x ∧ x < k) : isAt (firsts n k) x = true := by
  simp only [isAt, Bool.and_eq_true, decide_eq_true_eq, firsts, List.getD_eq_getElem?_getD, List.getElem?_append, List.getElem?_replicate, List.length_replicate]
  refine ⟨h.1, ?_⟩
  rw [if_pos (by omega), if_pos (by omega)]; rfl
theorem start_prod {T n : Nat} {rs : List Rl} (hT : T ≤ n) : Rt n (terms T) rs 0 (firsts n T) := by
  refine Rt.start (firsts_len hT) ?_ ?_
  · intro x hx
    obtain ⟨h0, h1⟩ := firsts_at x hx
    have := Null.of (rs := terms T ++ rs) (x, []) (List.mem_append.2 (.inl (mem_terms.2 ⟨x.toNat, by omega, by simp [show ((x.toNat : Nat) : Int) = x from by omega]⟩))) (fun s hs => by simp at hs)
    exact this
  · intro r hr
    obtain ⟨t, ht, rfl⟩ := mem_terms.1 hr
    exact firsts_is _ (by simp only; omega)

/-- a round of what is reached, rule by rule -/
def goOn (on : Rl → Bool) (b : List Bool) (r : Rl) : List Bool := if on r = true then (steps r).foldl by1 b else b
theorem pass_flat (on : Rl → Bool) (rs : List Rl) (b : List Bool) : pass (flat (rs.filter on)) b = rs.foldl (goOn on) b := by
  unfold pass
  induction rs generalizing b with
  | nil => rfl
  | cons r rs ih =>
    rw [List.foldl_cons, List.filter_cons]
    unfold goOn
    by_cases c : on r = true
    · rw [if_pos c, if_pos c]
      show List.foldl by1 b (steps r ++ flat (rs.filter on)) = _
      rw [List.foldl_append]; exact ih _
    · rw [if_neg c, if_neg c]; exact ih _

/-! ### what the program's functions make of a search -/

/-- there is room -/
structure Rm (n : Nat) (s : St) : Prop where
  len : s.is.length = n
  few : s.q.length ≤ cnt s.is
theorem Rm.find {n : Nat} {s : St} (h : Rm n s) {x : Int} (hx : 0 ≤ x ∧ x < n) : Rm n (Us.find s x) ∧ (isAt s.is x = false → s.q.length < n) := by
  unfold Us.find
  by_cases c : isAt s.is x = false
  · rw [if_pos c]
    have h1 := tell_cnt (T := 0) (b := s.is) (s := x) (by simpa using hx.1) (by rw [h.len]; exact hx.2) c
    simp only [List.drop_zero] at h1
    have h2 := cnt_le (tell s.is x)
    rw [tell_len, h.len] at h2
    have h3 := h.few
    refine ⟨⟨by rw [tell_len]; exact h.len, ?_⟩, fun _ => by omega⟩
    simp only [List.length_append, List.length_cons, List.length_nil]; omega
  · rw [if_neg c]; exact ⟨h, fun q => absurd q c⟩
theorem Rm.ask {n : Nat} {s : St} (h : Rm n s) {r : Rl} (hx : 0 ≤ r.1 ∧ r.1 < n) : Rm n (Nl.ask s r) := by
  cases c : allIn s.is r.2
  · rw [ask_no c]; exact h
  · rw [ask_find c]; exact (h.find hx).1
theorem Rm.finds {n : Nat} {l : List Int} (hx : ∀ x ∈ l, 0 ≤ x ∧ x < n) {s : St} (h : Rm n s) : Rm n (l.foldl Us.find s) := by
  induction l generalizing s with
  | nil => exact h
  | cons x l ih => exact ih (fun y hy => hx y (List.mem_cons_of_mem _ hy)) (h.find (hx x (List.mem_cons_self ..))).1
theorem Sv.rm {n : Nat} {cs : List Rl} {todo : Rl → Prop} {s : St} (h : Sv n cs todo s) : Rm n s := ⟨h.inv.len, by simpa using h.inv.few⟩

/-- a symbol is looked at: what its rules lead to -/
def lookR1 (x : Int) (s : St) (r : Rl) : St := if r.1 = x then r.2.foldl Us.find s else s
def lookR (rs : List Rl) (x : Int) (s : St) : St := rs.foldl (lookR1 x) s
/-- a symbol is looked at: the rules that have it -/
def lookP (rs : List Rl) (x : Int) (s : St) : St := rs.foldl (Nl.askIf x) s

theorem finds_step {n : Nat} {cs : List Rl} (hf : Fit 0 n cs) {x : Int} {rest : Rl → Prop} (l : List Int) {s : St} (hl : ∀ y ∈ l, (y, [x]) ∈ cs) (hx : isAt s.is x = true)
    (h : Sv n cs (fun r => (∃ y ∈ l, r = (y, [x])) ∨ rest r) s) : Sv n cs rest (l.foldl Us.find s) ∧ left 0 n (l.foldl Us.find s) ≤ left 0 n s ∧ isAt (l.foldl Us.find s).is x = true := by
  induction l generalizing s with
  | nil => exact ⟨h.weaken fun r _ q => by rcases q with ⟨y, hy, _⟩ | q; (· simp at hy); exact q, Nat.le_refl _, hx⟩
  | cons y l ih =>
    obtain ⟨h1, h2, _⟩ := h.find hf (hl y (List.mem_cons_self ..)) (by simp [allIn, hx])
    have h3 : isAt (Us.find s y).is x = true := (find_le s y).isAt hx
    have h4 := ih (s := Us.find s y) (fun z hz => hl z (List.mem_cons_of_mem _ hz)) h3 (h1.weaken fun r _ q => by
      obtain ⟨q, hne⟩ := q
      rcases q with ⟨z, hz, rfl⟩ | q
      · rcases List.mem_cons.1 hz with rfl | hz
        · exact absurd rfl hne
        · exact .inl ⟨z, hz, rfl⟩
      · exact .inr q)
    exact ⟨h4.1, Nat.le_trans h4.2.1 h2, h4.2.2⟩
theorem lookR_step {n : Nat} {cs : List Rl} (hf : Fit 0 n cs) {x : Int} (rs : List Rl) {s : St} (hrs : ∀ r ∈ rs, ∀ y ∈ r.2, (y, [r.1]) ∈ cs) (hx : isAt s.is x = true)
    (h : Sv n cs (fun c => x ∈ c.2 ∧ c ∈ flat rs) s) : Sv n cs (fun _ => False) (lookR rs x s) ∧ left 0 n (lookR rs x s) ≤ left 0 n s := by
  unfold lookR
  induction rs generalizing s with
  | nil => exact ⟨h.weaken fun r _ q => by simpa [flat] using q.2, Nat.le_refl _⟩
  | cons r rs ih =>
    rw [List.foldl_cons]
    have hm : ∀ c, c ∈ flat (r :: rs) ↔ c ∈ steps r ∨ c ∈ flat rs := fun c => by simp [flat]
    unfold lookR1
    by_cases e : r.1 = x
    · rw [if_pos e]
      obtain ⟨h1, h2, h3⟩ := finds_step (rest := fun c => x ∈ c.2 ∧ c ∈ flat rs) hf (x := x) r.2 (s := s) (fun y hy => by rw [← e]; exact hrs r (List.mem_cons_self ..) y hy) hx (h.weaken fun c _ q => by
        rcases (hm c).1 q.2 with p | p
        · simp only [steps, List.mem_map] at p
          obtain ⟨y, hy, rfl⟩ := p
          exact .inl ⟨y, hy, by rw [e]⟩
        · exact .inr ⟨q.1, p⟩)
      have h4 := ih (s := r.2.foldl Us.find s) (fun r' hr' => hrs r' (List.mem_cons_of_mem _ hr')) h3 h1
      exact ⟨h4.1, Nat.le_trans h4.2 h2⟩
    · rw [if_neg e]
      refine ih (fun r' hr' => hrs r' (List.mem_cons_of_mem _ hr')) hx (h.weaken fun c _ q => ?_)
      rcases (hm c).1 q.2 with p | p
      · simp only [steps, List.mem_map] at p
        obtain ⟨y, hy, rfl⟩ := p
        have := q.1
        simp at this
        exact absurd this.symm e
      · exact ⟨q.1, p⟩
theorem lookP_step {n : Nat} {cs : List Rl} (hf : Fit 0 n cs) {x : Int} (rs : List Rl) {s : St} (hrs : ∀ r ∈ rs, r ∈ cs)
    (h : Sv n cs (fun c => x ∈ c.2 ∧ c ∈ rs) s) : Sv n cs (fun _ => False) (lookP rs x s) ∧ left 0 n (lookP rs x s) ≤ left 0 n s := by
  unfold lookP
  induction rs generalizing s with
  | nil => exact ⟨h.weaken fun r _ q => by simp at q, Nat.le_refl _⟩
  | cons r rs ih =>
    rw [List.foldl_cons]
    unfold Nl.askIf
    by_cases e : x ∈ r.2
    · rw [if_pos e]
      obtain ⟨h1, h2, _⟩ := h.ask hf (hrs r (List.mem_cons_self ..))
      have h4 := ih (s := Nl.ask s r) (fun r' hr' => hrs r' (List.mem_cons_of_mem _ hr')) (h1.weaken fun c _ q => by
        obtain ⟨⟨q1, q2⟩, hne⟩ := q
        rcases List.mem_cons.1 q2 with p | p
        · exact absurd p hne
        · exact ⟨q1, p⟩)
      exact ⟨h4.1, Nat.le_trans h4.2 h2⟩
    · rw [if_neg e]
      refine ih (fun r' hr' => hrs r' (List.mem_cons_of_mem _ hr')) (h.weaken fun c _ q => ?_)
      rcases List.mem_cons.1 q.2 with p | p
      · subst p; exact absurd q.1 e
      · exact ⟨q.1, p⟩

/-- one is taken, and looked at -/
theorem next_reach {T n : Nat} {rs : List Rl} (hf : Fit T n rs) {y : Int} (hy : 0 ≤ y ∧ y < n) {b : List Bool} {x : Int} {q : List Int} (h : Sv n (reachC rs y) (fun _ => False) ⟨b, x :: q⟩) :
    Sv n (reachC rs y) (fun _ => False) (lookR rs x ⟨b, q⟩) ∧ left 0 n (lookR rs x ⟨b, q⟩) < left 0 n ⟨b, x :: q⟩ := by
  obtain ⟨h1, h2, h3⟩ := h.take
  have h4 := lookR_step (fit_reach hf hy) rs (s := ⟨b, q⟩) (fun r hr z hz => List.mem_cons_of_mem _ (mem_flat.2 ⟨r, hr, z, hz, rfl⟩)) h3 (h1.weaken fun c hc p => by
    rcases List.mem_cons.1 hc with rfl | hc
    · simp at p
    · exact ⟨p, hc⟩)
  exact ⟨h4.1, Nat.lt_of_le_of_lt h4.2 h2⟩
theorem next_prod {T n : Nat} {rs : List Rl} (hf : Fit T n rs) (hT : T ≤ n) {b : List Bool} {x : Int} {q : List Int} (h : Sv n (prodC T rs) (fun _ => False) ⟨b, x :: q⟩) :
    Sv n (prodC T rs) (fun _ => False) (lookP rs x ⟨b, q⟩) ∧ left 0 n (lookP rs x ⟨b, q⟩) < left 0 n ⟨b, x :: q⟩ := by
  obtain ⟨h1, h2, h3⟩ := h.take
  have h4 := lookP_step (fit_prod hf hT) rs (s := ⟨b, q⟩) (fun r hr => List.mem_append.2 (.inr hr)) (h1.weaken fun c hc p => by
    rcases List.mem_append.1 hc with hc | hc
    · obtain ⟨t, _, rfl⟩ := mem_terms.1 hc
      simp at p
    · exact ⟨p, hc⟩)
  exact ⟨h4.1, Nat.lt_of_le_of_lt h4.2 h2⟩
/-- the search's begin -/
theorem begin_reach {T n : Nat} {rs : List Rl} (hf : Fit T n rs) {y : Int} (hy : 0 ≤ y ∧ y < n) : Sv n (reachC rs y) (fun _ => False) (Us.find ⟨List.replicate n false, []⟩ y) := by
  obtain ⟨h1, _, _⟩ := (Sv.start (n := n) (cs := reachC rs y)).find (fit_reach hf hy) (r := (y, [])) (List.mem_cons_self ..) rfl
  have hn : ∀ z, isAt (List.replicate n false) z = false := fun z => by
    cases e : isAt (List.replicate n false) z
    · rfl
    · simp only [isAt, Bool.and_eq_true, List.getD_eq_getElem?_getD, List.getElem?_replicate] at e
      obtain ⟨_, e⟩ := e
      split at e <;> simp at e
  have e1 : Us.find ⟨List.replicate n false, []⟩ y = ⟨tell (List.replicate n false) y, [y]⟩ := by unfold Us.find; rw [if_pos (hn y)]; rfl
  simp only at h1
  rw [e1] at h1 ⊢
  refine ⟨⟨h1.inv.len, h1.inv.sound, h1.inv.few, h1.inv.q, fun r hr ha => ?_⟩, h1.told⟩
  rcases h1.inv.prog r hr ha with p | p | p
  · exact .inl p
  · exact .inr (.inl p)
  · right; left
    rcases List.mem_cons.1 hr with rfl | hr
    · exact absurd rfl p.2
    · obtain ⟨r0, hr0, s, hs, rfl⟩ := mem_flat.1 hr
      have ha1 := allIn_iff.1 ha r0.1 (by simp)
      rcases tell_back hy.1 ha1 with e | e
      · exact ⟨r0.1, by simp, by simp [e]⟩
      · rw [hn] at e; simp at e
theorem begin_terms {T n : Nat} {rs : List Rl} (hf : Fit T n rs) (hT : T ≤ n) (k : Nat) (hk : k ≤ T) :
    Sv n (prodC T rs) (fun c => (∃ t : Nat, k ≤ t ∧ t < T ∧ c = ((t : Int), [])) ∨ c ∈ rs) ((List.range k).foldl (fun s (t : Nat) => Us.find s (t : Int)) ⟨List.replicate n false, []⟩) := by
  induction k with
  | zero =>
    refine Sv.start.weaken fun c hc _ => ?_
    rcases List.mem_append.1 hc with hc | hc
    · obtain ⟨t, ht, rfl⟩ := mem_terms.1 hc
      exact .inl ⟨t, Nat.zero_le _, ht, rfl⟩
    · exact .inr hc
  | succ k ih =>
    rw [List.range_succ, List.foldl_append]
    have h1 := (ih (by omega)).find (fit_prod hf hT) (r := ((k : Int), [])) (List.mem_append.2 (.inl (mem_terms.2 ⟨k, by omega, rfl⟩))) rfl
    refine h1.1.weaken fun c _ q => ?_
    obtain ⟨q, hne⟩ := q
    rcases q with ⟨t, h2, h3, rfl⟩ | q
    · refine .inl ⟨t, ?_, h3, rfl⟩
      rcases Nat.lt_or_ge k t with p | p
      · exact p
      · have : t = k := by omega
        subst this; exact absurd rfl hne
    · exact .inr q
theorem begin_rules {T n : Nat} {rs : List Rl} (hf : Fit T n rs) (hT : T ≤ n) (l : List Rl) (hl : ∀ r ∈ l, r ∈ rs) {s : St} (h : Sv n (prodC T rs) (· ∈ l) s) : Sv n (prodC T rs) (fun _ => False) (l.foldl Nl.ask s) := by
  induction l generalizing s with
  | nil => exact h.weaken fun c _ q => by simp at q
  | cons r l ih =>
    have h1 := (h.ask (fit_prod hf hT) (List.mem_append.2 (.inr (hl r (List.mem_cons_self ..))))).1
    refine ih (fun x hx => hl x (List.mem_cons_of_mem _ hx)) (h1.weaken fun c _ q => ?_)
    rcases List.mem_cons.1 q.1 with p | p
    · exact absurd p q.2
    · exact p
theorem begin_prod {T n : Nat} {rs : List Rl} (hf : Fit T n rs) (hT : T ≤ n) : Sv n (prodC T rs) (fun _ => False) (rs.foldl Nl.ask ((List.range T).foldl (fun s (t : Nat) => Us.find s (t : Int)) ⟨List.replicate n false, []⟩)) := by
  refine begin_rules hf hT rs (fun _ h => h) ((begin_terms hf hT T (Nat.le_refl _)).weaken fun c _ q => ?_)
  rcases q with ⟨t, h1, h2, _⟩ | q
  · omega
  · exact q
end Go.Proofs.Ytkcohemphaafkaa.Us
