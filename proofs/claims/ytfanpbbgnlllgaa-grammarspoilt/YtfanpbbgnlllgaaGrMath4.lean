/-
  The plain mathematics of layer 3: a symbol's name is its own.
-/
import Derived.Test.YtfanpbbgnlllgaaGrMath3
namespace Go.Proofs.Ytfanpbbgnlllgaa.Gr

theorem each_inj {α : Type} [DecidableEq α] {p : α → Bool} {l : List α} (h : each p l = true) (i j : Nat) (hi : i < l.length) (hj : j < l.length) (e : l[i] = l[j]) : i = j := by
  have key : ∀ i j (hi : i < l.length) (hj : j < l.length), i < j → l[i] ≠ l[j] := by
    intro i j hi hj hij he
    have := (each_get h j hj).2
    rw [← he] at this
    exact this (List.mem_take_iff_getElem.2 ⟨i, by omega, rfl⟩)
  rcases Nat.lt_trichotomy i j with h1 | h1 | h1
  · exact absurd e (key i j hi hj h1)
  · exact h1
  · exact absurd e.symm (key j i hj hi h1)

theorem good_parts {g : Gm} (h : good g = true) : sizes g = true ∧ each (fun s => Lx.isName s.data.toList) g.names = true ∧ each (fun s => Lx.isTerm s.data.toList) g.terms = true ∧ each (fits g) g.rules = true ∧
    inOrder (g.rules.map (·.1)) g.terms.length ((g.terms.length : Int) + g.names.length) = true ∧ inOrder (seen g) 0 g.terms.length = true := by
  simp only [good, Bool.and_eq_true] at h
  obtain ⟨⟨⟨⟨⟨h1, h2⟩, h3⟩, h4⟩, h5⟩, h6⟩ := h
  exact ⟨h1, h2, h3, h4, h5, h6⟩

theorem name_ok (g : Gm) (s : Int) : (name g s).2 = (decide (0 ≤ s) && decide (s < (g.terms.length : Int) + g.names.length)) ∧ ((name g s).2 = false → (name g s).1 = ⟨#[]⟩) ∧ (isT g s = true → (name g s).2 = true) := by
  unfold name
  cases h1 : isT g s
  · cases h2 : isN g s
    · simp only [isT, isN, decide_eq_false_iff_not] at h1 h2
      refine ⟨?_, fun _ => rfl, fun h => by cases h⟩
      simp only [Bool.false_eq_true, if_false]
      rw [eq_comm, Bool.and_eq_false_iff, decide_eq_false_iff_not, decide_eq_false_iff_not]; omega
    · simp only [isT, isN, decide_eq_false_iff_not, decide_eq_true_eq] at h1 h2
      refine ⟨?_, fun h => by simp at h, fun h => by cases h⟩
      simp only [Bool.false_eq_true, if_false, if_true]
      rw [eq_comm, Bool.and_eq_true, decide_eq_true_eq, decide_eq_true_eq]; omega
  · simp only [isT, decide_eq_true_eq] at h1
    refine ⟨?_, fun h => by simp at h, fun _ => rfl⟩
    simp only [if_true]
    rw [eq_comm, Bool.and_eq_true, decide_eq_true_eq, decide_eq_true_eq]; omega

theorem name_inj {g : Gm} (h : good g = true) {s t : Int} {x : ByteArray} (hs : name g s = (x, true)) (ht : name g t = (x, true)) (hne : s ≠ t) : (isT g s == isT g t) = false := by
  obtain ⟨_, h2, h3, _⟩ := good_parts h
  rw [beq_eq_false_iff_ne]
  intro e
  unfold name at hs ht
  cases h1 : isT g s
  · rw [h1] at e hs
    rw [← e] at ht
    simp only [Bool.false_eq_true, if_false] at hs ht
    cases h4 : isN g s
    · rw [h4] at hs; simp at hs
    · cases h5 : isN g t
      · rw [h5] at ht; simp at ht
      · rw [h4] at hs
        rw [h5] at ht
        simp only [if_true, Prod.mk.injEq, and_true] at hs ht
        simp only [isN, decide_eq_true_eq] at h4 h5
        have i1 : (s - g.terms.length).toNat < g.names.length := by omega
        have i2 : (t - g.terms.length).toNat < g.names.length := by omega
        rw [getD_at _ _ _ i1] at hs
        rw [getD_at _ _ _ i2] at ht
        have := each_inj h2 _ _ i1 i2 (hs.trans ht.symm)
        omega
  · rw [h1] at e hs
    rw [← e] at ht
    simp only [if_true, Prod.mk.injEq, and_true] at hs ht
    have h5 : isT g t = true := e.symm
    simp only [isT, decide_eq_true_eq] at h1 h5
    have i1 : s.toNat < g.terms.length := by omega
    have i2 : t.toNat < g.terms.length := by omega
    rw [getD_at _ _ _ i1] at hs
    rw [getD_at _ _ _ i2] at ht
    have := each_inj h3 _ _ i1 i2 (hs.trans ht.symm)
    omega
end Go.Proofs.Ytfanpbbgnlllgaa.Gr
