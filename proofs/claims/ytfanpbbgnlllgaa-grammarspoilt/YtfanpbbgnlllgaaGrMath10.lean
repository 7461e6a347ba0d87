/-
  The mathematics of the law GrammarSpoilt: a grammar with a rule twice, with a name more, without its last rule.
-/
import Derived.Test.YtfanpbbgnlllgaaGrMath4
import Derived.Test.YtfanpbbgnlllgaaGrMath6
namespace Go.Proofs.Ytfanpbbgnlllgaa.Gr
open Go.Proofs.Ytfanpbbgnlllgaa.Rd

theorem good_each {g : Gm} (h : each (fits g) g.rules = false) : good g = false := by
  unfold good; rw [h]; simp
theorem good_names {g : Gm} (h : inOrder (g.rules.map (·.1)) g.terms.length ((g.terms.length : Int) + g.names.length) = false) : good g = false := by
  unfold good; rw [h]; simp

/-- one rule twice -/
theorem good_twice (t n : List ByteArray) (rs : List Rl) (r : Rl) (hr : r ∈ rs) : good ⟨t, n, rs ++ [r]⟩ = false := by
  refine good_each (each_fail rs.length (by simp) ?_)
  have e1 : (rs ++ [r])[rs.length]'(by simp) = r := by simp
  have e2 : (rs ++ [r]).take rs.length = rs := by simp
  show (fits _ ((rs ++ [r])[rs.length]'(by simp)) && !has ((rs ++ [r])[rs.length]'(by simp)) ((rs ++ [r]).take rs.length)) = false
  rw [e1, e2, has_mem hr]; simp

/-- a name more -/
theorem good_more {t n : List ByteArray} {rs : List Rl} (s : ByteArray) (h : good ⟨t, n, rs⟩ = true) : good ⟨t, n ++ [s], rs⟩ = false := by
  obtain ⟨_, _, _, _, h5, _⟩ := good_parts h
  refine good_names ?_
  unfold inOrder at h5 ⊢
  have h5' : comes (rs.map (·.1)) t.length = some ((t.length : Int) + n.length) := by simpa using h5
  show (comes (rs.map (·.1)) t.length == some ((t.length : Int) + (n ++ [s]).length)) = false
  rw [h5']
  rw [beq_eq_false_iff_ne]
  intro e
  have := Option.some.inj e
  rw [List.length_append] at this
  simp at this
  omega

theorem comes_all : ∀ (l : List Int) (lo m : Int), comes l lo = some m → lo ≤ m ∧ (∀ x ∈ l, x < m) ∧ ∀ y, lo ≤ y → y < m → y ∈ l
  | [], lo, m, h => by
    rw [comes] at h
    cases h
    exact ⟨Int.le_refl _, fun x hx => (by simp at hx), fun y h1 h2 => (by omega)⟩
  | x :: r, lo, m, h => by
    rcases Int.lt_trichotomy x lo with hx | hx | hx
    · rw [comes_came (by omega) (by omega)] at h
      obtain ⟨h1, h2, h3⟩ := comes_all r lo m h
      exact ⟨h1, fun y hy => by rcases List.mem_cons.1 hy with rfl | hy; omega; exact h2 y hy, fun y hy1 hy2 => List.mem_cons_of_mem _ (h3 y hy1 hy2)⟩
    · rw [comes_next hx] at h
      obtain ⟨h1, h2, h3⟩ := comes_all r (lo + 1) m h
      refine ⟨by omega, fun y hy => by rcases List.mem_cons.1 hy with rfl | hy; omega; exact h2 y hy, fun y hy1 hy2 => ?_⟩
      by_cases e : y = lo
      · exact List.mem_cons.2 (.inl (by omega))
      · exact List.mem_cons_of_mem _ (h3 y (by omega) hy2)
    · rw [comes_large hx] at h; cases h

theorem comes_below : ∀ (l : List Int) (m : Int), (∀ x ∈ l, x < m) → comes l m = some m
  | [], m, _ => rfl
  | x :: r, m, h => by
    have := h x List.mem_cons_self
    rw [comes_came (by omega) (by omega)]
    exact comes_below r m fun y hy => h y (List.mem_cons_of_mem _ hy)

/-- all come without the last ones just if these have come -/
theorem comes_less {l l2 : List Int} {lo hi : Int} (h : comes (l ++ l2) lo = some hi) (h2 : ∀ x ∈ l2, lo ≤ x) : (comes l lo == some hi) = decide (∀ x ∈ l2, x ∈ l) := by
  rw [comes_append] at h
  cases hl : comes l lo with
  | none => rw [hl] at h; cases h
  | some m =>
    rw [hl] at h
    have hm : comes l2 m = some hi := h
    obtain ⟨_, a2, a3⟩ := comes_all l lo m hl
    obtain ⟨b1, b2, b3⟩ := comes_all l2 m hi hm
    by_cases hall : ∀ x ∈ l2, x ∈ l
    · rw [decide_eq_true hall]
      have := comes_below l2 m fun x hx => a2 x (hall x hx)
      rw [this] at hm
      cases hm
      simp
    · rw [decide_eq_false hall, beq_eq_false_iff_ne]
      intro e
      have e' : m = hi := Option.some.inj e
      subst e'
      exact hall fun x hx => a3 x (h2 x hx) (b2 x hx)

theorem each_take {α : Type} [DecidableEq α] {p : α → Bool} {l : List α} (h : each p l = true) (k : Nat) : each p (l.take k) = true := by
  refine each_all fun i hi => ?_
  rw [List.length_take] at hi
  obtain ⟨h1, h2⟩ := each_get h i (by omega)
  rw [List.getElem_take, h1, List.take_take, Nat.min_eq_left (by omega), has_not h2]; rfl

/-- what is left of the law's reckoning: all that the last rule names has come -/
def lastCame (g : Gm) (rs : List Rl) (r : Rl) : Bool := has r.1 (rs.map (·.1)) && r.2.all (fun s => decide ((g.terms.length : Int) ≤ s) || rs.any (fun x => has s x.2))

/-- without its last rule -/
theorem good_less {g : Gm} (h : good g = true) (k : Nat) (hk : k + 1 = g.rules.length) (r : Rl) (hr : g.rules[k]? = some r) : good ⟨g.terms, g.names, g.rules.take k⟩ = (lastCame g (g.rules.take k) r && decide (0 < k)) := by
  obtain ⟨p1, p2, p3, p4, p5, p6⟩ := good_parts h
  have hs := of_decide_eq_true p1
  have hkl : k < g.rules.length := by omega
  have hr' : g.rules[k] = r := by rw [List.getElem?_eq_getElem hkl] at hr; exact Option.some.inj hr
  have hrs : g.rules = g.rules.take k ++ [r] := by
    have : g.rules = g.rules.take (k + 1) := by rw [hk, List.take_length]
    conv => lhs; rw [this, List.take_add_one, hr]
    rfl
  have hfit := (each_get p4 k hkl).1
  rw [hr'] at hfit
  simp only [fits, Bool.and_eq_true, List.all_eq_true] at hfit
  obtain ⟨⟨f1, _⟩, f3⟩ := hfit
  have f1' := of_decide_eq_true f1
  have e5 : inOrder ((g.rules.take k).map (·.1)) g.terms.length ((g.terms.length : Int) + g.names.length) = has r.1 ((g.rules.take k).map (·.1)) := by
    have h5 : comes ((g.rules.take k).map (·.1) ++ [r.1]) g.terms.length = some ((g.terms.length : Int) + g.names.length) := by
      have := p5
      rw [hrs, List.map_append] at this
      unfold inOrder at this
      simpa using this
    unfold inOrder
    rw [comes_less h5 (fun x hx => by rw [List.mem_singleton] at hx; rw [hx]; exact f1'.1)]
    unfold has
    rw [decide_eq_decide]
    simp
  have e6 : inOrder ((g.rules.take k).flatMap (fun x => x.2.filter (isT g))) 0 g.terms.length = r.2.all (fun s => decide ((g.terms.length : Int) ≤ s) || (g.rules.take k).any (fun x => has s x.2)) := by
    have h6 : comes ((g.rules.take k).flatMap (fun x => x.2.filter (isT g)) ++ r.2.filter (isT g)) 0 = some (g.terms.length : Int) := by
      have := p6
      unfold seen at this
      rw [hrs, List.flatMap_append] at this
      unfold inOrder at this
      simpa using this
    have hT : ∀ s, isT g s = true ↔ (0 ≤ s ∧ s < (g.terms.length : Int)) := fun s => by unfold isT; rw [decide_eq_true_eq]
    unfold inOrder
    rw [comes_less h6 (fun x hx => ((hT x).1 (List.mem_filter.1 hx).2).1), Bool.eq_iff_iff, decide_eq_true_eq, List.all_eq_true]
    have hpos : ∀ s ∈ r.2, 0 ≤ s := fun s hs' => by
      have := f3 s hs'
      rw [Bool.or_eq_true] at this
      rcases this with h | h
      · exact ((hT s).1 h).1
      · have := of_decide_eq_true h; omega
    constructor
    · intro hh s hs'
      rw [Bool.or_eq_true, decide_eq_true_eq]
      by_cases hl : (g.terms.length : Int) ≤ s
      · exact .inl hl
      · right
        have hmem := hh s (List.mem_filter.2 ⟨hs', (hT s).2 ⟨hpos s hs', by omega⟩⟩)
        obtain ⟨x, hx, hsx⟩ := List.mem_flatMap.1 hmem
        exact List.any_eq_true.2 ⟨x, hx, has_mem (List.mem_filter.1 hsx).1⟩
    · intro hh s hs'
      obtain ⟨h1, h2⟩ := List.mem_filter.1 hs'
      have := hh s h1
      rw [Bool.or_eq_true, decide_eq_true_eq] at this
      rcases this with h | h
      · have := (hT s).1 h2; omega
      · obtain ⟨x, hx, hsx⟩ := List.any_eq_true.1 h
        exact List.mem_flatMap.2 ⟨x, hx, List.mem_filter.2 ⟨has_yes hsx, h2⟩⟩
  have e4 : each (fits ⟨g.terms, g.names, g.rules.take k⟩) (g.rules.take k) = true := each_take p4 k
  have e1 : sizes ⟨g.terms, g.names, g.rules.take k⟩ = decide (0 < k) := by
    unfold sizes
    rw [decide_eq_decide]
    simp only [List.length_take]
    omega
  unfold good lastCame
  show (sizes ⟨g.terms, g.names, g.rules.take k⟩ && each (fun s => Lx.isName s.data.toList) g.names && each (fun s => Lx.isTerm s.data.toList) g.terms && each (fits ⟨g.terms, g.names, g.rules.take k⟩) (g.rules.take k) && inOrder ((g.rules.take k).map (·.1)) g.terms.length ((g.terms.length : Int) + g.names.length) && inOrder ((g.rules.take k).flatMap (fun x => x.2.filter (isT g))) 0 g.terms.length) = _
  rw [e1, p2, p3, e4, e5, e6]
  cases decide (0 < k) <;> simp
end Go.Proofs.Ytfanpbbgnlllgaa.Gr
