/-
  Layer 7 (useful): the answers, of any grammar; what follows (P7.2) and what the laws of this layer ask.
-/
import Derived.Test.YtkcohemphaafkaaUsMath
import Derived.Test.YtkcohemphaafkaaSchLib
namespace Go.Proofs.Ytkcohemphaafkaa.Us
open Go.Proofs.Ytkcohemphaafkaa.Gr Go.Proofs.Ytkcohemphaafkaa.Nl

/-- how many symbols -/
def all (g : Gm) : Nat := g.terms.length + g.names.length
/-- the rules all of whose symbols are told -/
def goods (g : Gm) (p : List Bool) : List Rl := g.rules.filter fun r => allIn p r.2
noncomputable def reach (g : Gm) (x : Int) : List Bool := if good g = true ∧ 0 ≤ x ∧ x < (all g : Int) then nulls (reachC g.rules x) (all g) else []
noncomputable def prod (g : Gm) : List Bool := if good g = true then nulls (prodC g.terms.length g.rules) (all g) else []
noncomputable def use (g : Gm) : List Bool := if good g = true then (if isAt (prod g) (g.terms.length : Int) = true then nulls (reachC (goods g (prod g)) (g.terms.length : Int)) (all g) else List.replicate (all g) false) else []

theorem fit_sub {T n : Nat} {rs rs' : List Rl} (h : Fit T n rs) (hs : ∀ r ∈ rs', r ∈ rs) : Fit T n rs' := ⟨fun r hr => h.left r (hs r hr), fun r hr => h.right r (hs r hr)⟩
theorem fit_goods {g : Gm} (h : good g = true) (p : List Bool) : Fit g.terms.length (all g) (goods g p) := fit_sub (fit_of h) fun _ hr => (List.mem_filter.1 hr).1
theorem start_in {g : Gm} (h : good g = true) : 0 ≤ (g.terms.length : Int) ∧ (g.terms.length : Int) < (all g : Int) := by
  have := (sizes_of h).1
  unfold all; omega

theorem reach_len {g : Gm} {x : Int} (h : good g = true) (hx : 0 ≤ x ∧ x < (all g : Int)) : (reach g x).length = all g := by unfold reach; rw [if_pos ⟨h, hx⟩, nulls_len]
theorem prod_len {g : Gm} (h : good g = true) : (prod g).length = all g := by unfold prod; rw [if_pos h, nulls_len]
theorem use_len {g : Gm} (h : good g = true) : (use g).length = all g := by
  unfold use; rw [if_pos h]; split
  · rw [nulls_len]
  · simp
theorem prod_no {g : Gm} (h : good g = false) : prod g = [] := by unfold prod; rw [if_neg (by simp [h])]
theorem use_no {g : Gm} (h : good g = false) : use g = [] := by unfold use; rw [if_neg (by simp [h])]
theorem reach_no {g : Gm} {x : Int} (h : ¬ (good g = true ∧ 0 ≤ x ∧ x < (all g : Int))) : reach g x = [] := by unfold reach; rw [if_neg h]
theorem all_le {g : Gm} (h : good g = true) : all g ≤ 80 := by have := (sizes_of h).1; unfold all; omega
theorem reach_small (g : Gm) (x : Int) : (reach g x).length ≤ 80 := by
  by_cases h : good g = true ∧ 0 ≤ x ∧ x < (all g : Int)
  · rw [reach_len h.1 h.2]; exact all_le h.1
  · rw [reach_no h]; simp
theorem prod_small (g : Gm) : (prod g).length ≤ 80 := by
  cases h : good g
  · rw [prod_no h]; simp
  · rw [prod_len h]; exact all_le h
theorem use_small (g : Gm) : (use g).length ≤ 80 := by
  cases h : good g
  · rw [use_no h]; simp
  · rw [use_len h]; exact all_le h

theorem reach_at {g : Gm} {x : Int} (h : good g = true) (hx : 0 ≤ x ∧ x < (all g : Int)) (y : Int) : isAt (reach g x) y = true ↔ Null (reachC g.rules x) y := by
  unfold reach; rw [if_pos ⟨h, hx⟩]; exact nulls_at (fit_reach (fit_of h) hx) y
theorem prod_at {g : Gm} (h : good g = true) (y : Int) : isAt (prod g) y = true ↔ Null (prodC g.terms.length g.rules) y := by
  unfold prod; rw [if_pos h]; exact nulls_at (fit_prod (n := all g) (fit_of h) (by unfold all; omega)) y
theorem use_at {g : Gm} (h : good g = true) (y : Int) : isAt (use g) y = true ↔ isAt (prod g) (g.terms.length : Int) = true ∧ Null (reachC (goods g (prod g)) (g.terms.length : Int)) y := by
  unfold use; rw [if_pos h]
  split
  · rename_i c
    rw [nulls_at (fit_reach (fit_goods h _) (start_in h)) y]
    exact ⟨fun q => ⟨c, q⟩, fun q => q.2⟩
  · rename_i c
    constructor
    · intro q
      exact absurd (sound_none [] (all g) y q) fun q => by cases q with | of r hr _ => simp at hr
    · intro q; exact absurd q.1 c

/-! ### what is reached -/

theorem reach_self {rs : List Rl} (x : Int) : Null (reachC rs x) x := .of (x, []) (List.mem_cons_self ..) fun s hs => by simp at hs
theorem reach_step {rs : List Rl} {x : Int} {r : Rl} (hr : r ∈ rs) (h : Null (reachC rs x) r.1) {s : Int} (hs : s ∈ r.2) : Null (reachC rs x) s :=
  .of (s, [r.1]) (List.mem_cons_of_mem _ (mem_flat.2 ⟨r, hr, s, hs, rfl⟩)) fun y hy => by simp at hy; subst hy; exact h
/-- to show something of all that is reached -/
theorem reach_ind {rs : List Rl} {x : Int} {P : Int → Prop} (h0 : P x) (h1 : ∀ r ∈ rs, P r.1 → ∀ s ∈ r.2, P s) {y : Int} (h : Null (reachC rs x) y) : P y := by
  induction h with
  | of c hc _ ih =>
    rcases List.mem_cons.1 hc with rfl | hc
    · exact h0
    · obtain ⟨r, hr, s, hs, rfl⟩ := mem_flat.1 hc
      exact h1 r hr (ih r.1 (by simp)) s hs
theorem reach_trans {rs : List Rl} {x y z : Int} (h : Null (reachC rs x) y) (h' : Null (reachC rs y) z) : Null (reachC rs x) z :=
  reach_ind (P := fun z => Null (reachC rs x) z) h (fun _ hr hp _ hs => reach_step hr hp hs) h'
theorem reach_more {rs rs' : List Rl} (hs : ∀ r ∈ rs, r ∈ rs') {x y : Int} (h : Null (reachC rs x) y) : Null (reachC rs' x) y :=
  reach_ind (P := fun z => Null (reachC rs' x) z) (reach_self x) (fun r hr hp _ h => reach_step (hs r hr) hp h) h

/-! ### what is productive -/

theorem prod_term {T : Nat} {rs : List Rl} {t : Int} (h : 0 ≤ t ∧ t < T) : Null (prodC T rs) t :=
  Null.of (rs := prodC T rs) (t, []) (List.mem_append.2 (.inl (mem_terms.2 ⟨t.toNat, by omega, by simp [show ((t.toNat : Nat) : Int) = t from by omega]⟩))) (fun s hs => by simp at hs)
theorem prod_rule {T : Nat} {rs : List Rl} {r : Rl} (hr : r ∈ rs) (h : ∀ s ∈ r.2, Null (prodC T rs) s) : Null (prodC T rs) r.1 := .of r (List.mem_append.2 (.inr hr)) h
theorem prod_some {T : Nat} {rs : List Rl} {s : Int} (hs : (T : Int) ≤ s) : Null (prodC T rs) s ↔ ∃ r ∈ rs, r.1 = s ∧ ∀ y ∈ r.2, Null (prodC T rs) y := by
  constructor
  · intro h
    obtain ⟨c, hc, rfl, h2⟩ := h.some
    rcases List.mem_append.1 hc with hc | hc
    · obtain ⟨t, ht, rfl⟩ := mem_terms.1 hc
      simp only at hs; omega
    · exact ⟨c, hc, rfl, h2⟩
  · rintro ⟨r, hr, rfl, h⟩; exact prod_rule hr h
theorem prod_more {T : Nat} {rs rs' : List Rl} (hs : ∀ r ∈ rs, r ∈ rs') {x : Int} (h : Null (prodC T rs) x) : Null (prodC T rs') x :=
  h.more fun r hr => by
    rcases List.mem_append.1 hr with q | q
    · exact List.mem_append.2 (.inl q)
    · exact List.mem_append.2 (.inr (hs r q))

/-! ### the laws -/

theorem mem_goods {g : Gm} {p : List Bool} {r : Rl} : r ∈ goods g p ↔ r ∈ g.rules ∧ allIn p r.2 = true := List.mem_filter
/-- what is useful is productive -/
theorem use_prod {g : Gm} (h : good g = true) {y : Int} (q : isAt (use g) y = true) : isAt (prod g) y = true := by
  obtain ⟨h1, h2⟩ := (use_at h y).1 q
  exact reach_ind (P := fun y => isAt (prod g) y = true) h1 (fun r hr _ s hs => allIn_iff.1 (mem_goods.1 hr).2 s hs) h2
/-- .. and reached -/
theorem use_reach {g : Gm} (h : good g = true) {y : Int} (q : isAt (use g) y = true) : isAt (reach g (g.terms.length : Int)) y = true := by
  obtain ⟨_, h2⟩ := (use_at h y).1 q
  exact (reach_at h (start_in h) y).2 (reach_more (fun r hr => (mem_goods.1 hr).1) h2)
theorem terms_prod {g : Gm} (h : good g = true) {y : Int} (hy : 0 ≤ y ∧ y < (g.terms.length : Int)) : isAt (prod g) y = true := (prod_at h y).2 (prod_term hy)
theorem self_reach {g : Gm} (h : good g = true) {x : Int} (hx : 0 ≤ x ∧ x < (all g : Int)) : isAt (reach g x) x = true := (reach_at h hx x).2 (reach_self x)
theorem trans_reach {g : Gm} (h : good g = true) {x y z : Int} (hx : 0 ≤ x ∧ x < (all g : Int)) (hy : isAt (reach g x) y = true) (hz : isAt (reach g y) z = true) : isAt (reach g x) z = true := by
  have hy' : 0 ≤ y ∧ y < (all g : Int) := by have := isAt_lt hy; rw [reach_len h hx] at this; exact this
  exact (reach_at h hx z).2 (reach_trans ((reach_at h hx y).1 hy) ((reach_at h hy' z).1 hz))
/-- a nonterminal is productive just if one of its rules is -/
theorem prod_iff {g : Gm} (h : good g = true) {y : Int} (hy : (g.terms.length : Int) ≤ y) : isAt (prod g) y = g.rules.any fun r => decide (r.1 = y) && allIn (prod g) r.2 := by
  rw [Bool.eq_iff_iff, prod_at h, prod_some hy]
  simp only [List.any_eq_true, Bool.and_eq_true, decide_eq_true_eq, allIn_iff]
  constructor
  · rintro ⟨r, hr, e, q⟩; exact ⟨r, hr, e, fun s hs => (prod_at h s).2 (q s hs)⟩
  · rintro ⟨r, hr, e, q⟩; exact ⟨r, hr, e, fun s hs => (prod_at h s).1 (q s hs)⟩

/-- one rule more -/
theorem more_reach {g g' : Gm} (h : good g = true) (h' : good g' = true) (ht : g'.terms = g.terms) (hn : g'.names = g.names) (hr : ∀ r ∈ g.rules, r ∈ g'.rules) {y : Int} (q : isAt (reach g (g.terms.length : Int)) y = true) : isAt (reach g' (g.terms.length : Int)) y = true := by
  have hx := start_in h
  have ea : all g' = all g := by unfold all; rw [ht, hn]
  have hx' : 0 ≤ (g.terms.length : Int) ∧ (g.terms.length : Int) < (all g' : Int) := by rw [ea]; exact hx
  exact (reach_at h' hx' y).2 (reach_more hr ((reach_at h hx y).1 q))
theorem more_prod {g g' : Gm} (h : good g = true) (h' : good g' = true) (ht : g'.terms = g.terms) (hr : ∀ r ∈ g.rules, r ∈ g'.rules) {y : Int} (q : isAt (prod g) y = true) : isAt (prod g') y = true := by
  refine (prod_at h' y).2 ?_
  rw [ht]; exact prod_more hr ((prod_at h y).1 q)
theorem more_use {g g' : Gm} (h : good g = true) (h' : good g' = true) (ht : g'.terms = g.terms) (hr : ∀ r ∈ g.rules, r ∈ g'.rules) {y : Int} (q : isAt (use g) y = true) : isAt (use g') y = true := by
  obtain ⟨h1, h2⟩ := (use_at h y).1 q
  refine (use_at h' y).2 ?_
  rw [ht]
  refine ⟨more_prod h h' ht hr h1, reach_more (fun r hm => ?_) h2⟩
  obtain ⟨hm, ha⟩ := mem_goods.1 hm
  exact mem_goods.2 ⟨hr r hm, allIn_iff.2 fun s hs => more_prod h h' ht hr (allIn_iff.1 ha s hs)⟩
/-- where all is productive, what is reached is useful -/
theorem all_use {g : Gm} (h : good g = true) (hp : ∀ s : Int, 0 ≤ s ∧ s < (all g : Int) → isAt (prod g) s = true) (y : Int) : isAt (use g) y = isAt (reach g (g.terms.length : Int)) y := by
  rw [Bool.eq_iff_iff]
  constructor
  · exact use_reach h
  · intro q
    refine (use_at h y).2 ⟨hp _ (start_in h), ?_⟩
    have e : goods g (prod g) = g.rules := List.filter_eq_self.2 fun r hr => allIn_iff.2 fun s hs => hp s ((fit_of h).right r hr s hs)
    rw [e]; exact (reach_at h (start_in h) y).1 q

/-- what is reached by rules that are productive alone, if the start is: all productive -/
theorem useful_is {g : Gm} (h : good g = true) : use g = (List.range (all g)).map fun (i : Nat) => (nulls (reachC (goods g (prod g)) (g.terms.length : Int)) (all g)).getD i false && (prod g).getD i false && isAt (prod g) (g.terms.length : Int) := by
  refine List.ext_getElem (by rw [use_len h]; simp) fun i h1 h2 => ?_
  have e1 : (use g)[i] = isAt (use g) (i : Int) := by rw [isAt_get (by omega) (by simpa using h1)]; simp
  rw [e1, List.getElem_map, List.getElem_range, ← isAt_nat, ← isAt_nat, Bool.eq_iff_iff]
  simp only [Bool.and_eq_true]
  constructor
  · intro q
    obtain ⟨q1, q2⟩ := (use_at h _).1 q
    exact ⟨⟨(nulls_at (fit_reach (fit_goods h _) (start_in h)) _).2 q2, use_prod h q⟩, q1⟩
  · rintro ⟨⟨q1, q2⟩, q3⟩
    exact (use_at h _).2 ⟨q3, (nulls_at (fit_reach (fit_goods h _) (start_in h)) _).1 q1⟩
end Go.Proofs.Ytkcohemphaafkaa.Us
