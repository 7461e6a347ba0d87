/-
  For the law GrammarMay: what its loop has, and what it wants to know of the grammar that is read.
-/
import Derived.Test.YtimjopaedfefmaaGrMayOut
namespace Go.Proofs.Ytimjopaedfefmaa.Gr
open Go.Proofs.Ytimjopaedfefmaa.Rd

/-- what the law has of a left side, a right side -/
def mdLR : Md → ByteArray → List Tk → Prop
  | .start, _, r => r = []
  | .eq l, x, r => x = l.text ∧ r = []
  | .body l a, x, r => x = l.text ∧ r = a

theorem has_step {α : Type} [DecidableEq α] (r : α) (l : List α) (k : Nat) (h : k < l.length) : has r (l.take (k + 1)) = (has r (l.take k) || decide (l[k] = r)) := by
  unfold has
  rw [Bool.eq_iff_iff, Bool.or_eq_true, decide_eq_true_eq, decide_eq_true_eq, decide_eq_true_eq, List.take_add_one, List.getElem?_eq_getElem h, List.mem_append]
  constructor
  · rintro (h | h)
    · exact .inl h
    · exact .inr (List.mem_singleton.1 h).symm
  · rintro (h | h)
    · exact .inl h
    · exact .inr (List.mem_singleton.2 h.symm)

/-- all that the loop wants to know of the alternatives -/
structure MF (xs : List Al) (g : Gm) : Prop where
  alt : ∀ x ∈ xs, ∀ r : Rl, altAt g r x.1.text x.2 = decide (r = rule g.terms g.names x)
  rls : g.rules = rules g.terms g.names xs
  r8 : ∀ r ∈ g.rules, r.2.length ≤ 8
  x8 : ∀ x ∈ xs, x.2.length ≤ 8
  t40 : g.terms.length ≤ 40 ∧ g.names.length ≤ 40 ∧ g.rules.length ≤ 60
  tsz : ∀ s ∈ g.terms, s.size ≤ 16
  nsz : ∀ s ∈ g.names, s.size ≤ 16

theorem mf_of {xs : List Al} {g : Gm} (hx : ∀ x ∈ xs, alP tkGood x) (h8 : ∀ x ∈ xs, x.2.length ≤ 8) (h : of xs = .ok g) (hg : good g = true) : MF xs g := by
  obtain ⟨p1, p2, p3, p4, _⟩ := good_parts hg
  have hgx : g = ⟨terms xs, names xs, rules (terms xs) (names xs) xs⟩ ∧ undef (names xs) xs = none := by
    unfold of at h
    split at h
    · cases h
    · rename_i hu
      split at h
      · cases h
      · cases h; exact ⟨rfl, hu⟩
  obtain ⟨hgx, hu⟩ := hgx
  subst hgx
  have hN : ∀ x ∈ xs, ∀ t ∈ x.2, t.kind = 1 → t.text ∈ names xs := undef_none hu
  have hT : ∀ x ∈ xs, ∀ t ∈ x.2, t.kind = 2 → t.text ∈ terms xs := (terms_sub xs []).2
  have hin : ∀ x ∈ xs, x.1.text ∈ names xs := (foldl_put_sub (fun a : Al => a.1.text) xs []).2
  have hs := of_decide_eq_true p1
  refine ⟨fun x hxx r => ?_, rfl, fun r hr => ?_, h8, ⟨hs.2.2.1, hs.2.1, hs.2.2.2.2⟩, fun s hsm => ?_, fun s hsm => ?_⟩
  · exact altAt_is hg r x.1 x.2 (hx x hxx).1.1 (hin x hxx) (fun t ht => ⟨((hx x hxx).2 t ht).1, hT x hxx t ht, hN x hxx t ht⟩)
  · obtain ⟨k, hk, rfl⟩ := List.getElem_of_mem hr
    have := (each_get p4 k hk).1
    simp only [fits, Bool.and_eq_true, decide_eq_true_eq] at this
    exact this.1.2
  · obtain ⟨k, hk, rfl⟩ := List.getElem_of_mem hsm
    have := (each_get p3 k hk).1
    simp only [Lx.isTerm, Bool.and_eq_true, decide_eq_true_eq] at this
    have h1 := this.1.2
    have h2 : ∀ x : ByteArray, x.data.toList.length = x.size := fun x => by simp
    rw [h2] at h1
    exact h1
  · obtain ⟨k, hk, rfl⟩ := List.getElem_of_mem hsm
    have := (each_get p2 k hk).1
    simp only [Lx.isName, Bool.and_eq_true, decide_eq_true_eq] at this
    have h1 := this.1.1.2
    have h2 : ∀ x : ByteArray, x.data.toList.length = x.size := fun x => by simp
    rw [h2] at h1
    exact h1
end Go.Proofs.Ytimjopaedfefmaa.Gr
