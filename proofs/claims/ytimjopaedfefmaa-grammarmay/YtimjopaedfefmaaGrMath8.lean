/-
  The mathematics of the law GrammarMay: a rule is an alternative's just if it is its rule; rules of a part of the alternatives stand ahead.
-/
import Derived.Test.YtimjopaedfefmaaGrIs
import Derived.Test.YtimjopaedfefmaaGrMath7
namespace Go.Proofs.Ytimjopaedfefmaa.Gr
open Go.Proofs.Ytimjopaedfefmaa.Rd

theorem sym_name {g : Gm} {t : Tk} (hk : t.kind = 1 ∨ t.kind = 2) (h2 : t.kind = 2 → t.text ∈ g.terms) (h1 : t.kind = 1 → t.text ∈ g.names) :
    name g (sym g.terms g.names t) = (t.text, true) ∧ isT g (sym g.terms g.names t) = decide (t.kind = 2) := by
  by_cases k : t.kind = 2
  · obtain ⟨i, hi, e1, e2⟩ := pos_mem (h2 k)
    have es : sym g.terms g.names t = i := by unfold sym; rw [if_pos k, e1]
    have hT : isT g (sym g.terms g.names t) = true := by rw [es]; unfold isT; rw [decide_eq_true_eq]; omega
    refine ⟨?_, by rw [hT]; simp [k]⟩
    unfold name
    rw [if_pos hT, es, Int.toNat_natCast, getD_at _ _ _ hi, e2]
  · obtain ⟨i, hi, e1, e2⟩ := pos_mem (h1 (by omega))
    have es : sym g.terms g.names t = (g.terms.length : Int) + i := by unfold sym; rw [if_neg k, e1]
    have hT : isT g (sym g.terms g.names t) = false := by rw [es]; unfold isT; rw [decide_eq_false_iff_not]; omega
    have hN : isN g (sym g.terms g.names t) = true := by rw [es]; unfold isN; rw [decide_eq_true_eq]; omega
    refine ⟨?_, by rw [hT]; simp [k]⟩
    have ei : ((g.terms.length : Int) + (i : Int) - (g.terms.length : Int)).toNat = i := by omega
    unfold name
    rw [if_neg (by rw [hT]; decide), if_pos hN, es, ei, getD_at _ _ _ hi, e2]

theorem symAt_is {g : Gm} (hg : good g = true) {s : Int} {t : Tk} (hk : t.kind = 1 ∨ t.kind = 2) (h2 : t.kind = 2 → t.text ∈ g.terms) (h1 : t.kind = 1 → t.text ∈ g.names) : symAt g s t = decide (s = sym g.terms g.names t) := by
  obtain ⟨a, b⟩ := sym_name hk h2 h1
  rw [Bool.eq_iff_iff, decide_eq_true_eq]
  unfold symAt
  constructor
  · intro h
    simp only [Bool.and_eq_true, decide_eq_true_eq, beq_iff_eq] at h
    by_cases e : s = sym g.terms g.names t
    · exact e
    · have hs : name g s = (t.text, true) := Prod.ext h.1.2 h.1.1
      have := name_inj hg hs a e
      rw [b, h.2] at this
      simp at this
  · intro h
    subst h
    rw [a, b]; simp

theorem symsAt_is {g : Gm} (hg : good g = true) : ∀ (ss : List Int) (ts : List Tk), ss.length = ts.length → (∀ t ∈ ts, (t.kind = 1 ∨ t.kind = 2) ∧ (t.kind = 2 → t.text ∈ g.terms) ∧ (t.kind = 1 → t.text ∈ g.names)) → symsAt g ss ts = decide (ss = ts.map (sym g.terms g.names))
  | [], [], _, _ => by simp [symsAt]
  | s :: ss, t :: ts, hl, h => by
    obtain ⟨k, h2, h1⟩ := h t List.mem_cons_self
    rw [symsAt, symAt_is hg k h2 h1, symsAt_is hg ss ts (by simpa using hl) (fun u hu => h u (List.mem_cons_of_mem _ hu))]
    rw [Bool.eq_iff_iff]; simp
  | [], _ :: _, hl, _ => by simp at hl
  | _ :: _, [], hl, _ => by simp at hl

/-- a rule is that alternative just if it is its rule -/
theorem altAt_is {g : Gm} (hg : good g = true) (r : Rl) (l : Tk) (a : List Tk) (hl : l.kind = 1) (hln : l.text ∈ g.names) (h : ∀ t ∈ a, (t.kind = 1 ∨ t.kind = 2) ∧ (t.kind = 2 → t.text ∈ g.terms) ∧ (t.kind = 1 → t.text ∈ g.names)) :
    altAt g r l.text a = decide (r = rule g.terms g.names (l, a)) := by
  have h2 : l.kind = 2 → l.text ∈ g.terms := fun h => by omega
  have hs := symAt_is hg (s := r.1) (.inl hl) h2 (fun _ => hln)
  have e : ((name g r.1).2 && decide ((name g r.1).1 = l.text) && !isT g r.1) = decide (r.1 = sym g.terms g.names l) := by
    rw [← hs]; unfold symAt
    rw [decide_eq_false (show ¬ l.kind = 2 by omega)]
    cases isT g r.1 <;> simp
  unfold altAt
  rw [e]
  by_cases hlen : r.2.length = a.length
  · rw [symsAt_is hg r.2 a hlen h, Bool.eq_iff_iff]
    simp only [Bool.and_eq_true, decide_eq_true_eq, hlen, and_true]
    exact ⟨fun ⟨h1, h2⟩ => Prod.ext h1 h2, fun h => by rw [h]; exact ⟨rfl, rfl⟩⟩
  · rw [decide_eq_false hlen, Bool.and_false, Bool.false_and, eq_comm, decide_eq_false_iff_not]
    intro h; apply hlen; rw [h]; simp [rule]

theorem undef_none {ns : List ByteArray} {xs : List Al} (h : undef ns xs = none) : ∀ x ∈ xs, ∀ t ∈ x.2, t.kind = 1 → t.text ∈ ns := by
  have hT : ∀ ts : List Tk, undefT ns ts = none → ∀ t ∈ ts, t.kind = 1 → t.text ∈ ns := by
    intro ts
    induction ts with
    | nil => exact fun _ t ht => by simp at ht
    | cons u r ih =>
      intro hh t ht hk
      rw [undefT] at hh
      split at hh
      · cases hh
      · rename_i hc
        rcases List.mem_cons.1 ht with rfl | ht
        · cases hb : has t.text ns
          · exact absurd ⟨hk, hb⟩ hc
          · exact has_yes hb
        · exact ih hh t ht hk
  induction xs with
  | nil => exact fun x hx => by simp at hx
  | cons z r ih =>
    intro x hxz
    rw [undef] at h
    obtain ⟨h1, h2⟩ := Option.or_eq_none_iff.1 h
    rcases List.mem_cons.1 hxz with rfl | hxz
    · exact hT _ h1
    · exact ih h2 x hxz

theorem rules_pre (ts ns : List ByteArray) (xs : List Al) (k : Nat) : rules ts ns (xs.take k) <+: rules ts ns xs := by
  have e : rules ts ns xs = (xs.drop k).foldl (fun l a => put l (rule ts ns a)) (rules ts ns (xs.take k)) := by
    unfold rules; rw [← List.foldl_append, List.take_append_drop]
  rw [e]
  exact fold_pre _ (· <+: ·) (fun _ => List.prefix_refl _) (fun _ _ _ h1 h2 => h1.trans h2) (fun l a => put_pre l (rule ts ns a)) _ _
end Go.Proofs.Ytimjopaedfefmaa.Gr
