/-
  The plain mathematics of layer 3: of what kind the tokens of alternatives are.
-/
import Derived.Test.YtimjopaedfefmaaReadMath2
import Derived.Test.YtimjopaedfefmaaGrMath
namespace Go.Proofs.Ytimjopaedfefmaa.Rd

/-- an alternative of names and quotes, each as P says -/
def alP (P : Tk → Prop) (x : Al) : Prop := (x.1.kind = 1 ∧ P x.1) ∧ ∀ t ∈ x.2, (t.kind = 1 ∨ t.kind = 2) ∧ P t
def mdP (P : Tk → Prop) : Md → Prop
  | .start => True
  | .eq l => l.kind = 1 ∧ P l
  | .body l a => alP P (l, a)

theorem run_mem (P : Tk → Prop) {s s' : St} {ts : List Tk} (h : run s ts = .ok s') (hP : ∀ t ∈ ts, P t) (ha : ∀ x ∈ s.acc, alP P x) (hm : mdP P s.md) : (∀ x ∈ s'.acc, alP P x) ∧ mdP P s'.md := by
  induction ts generalizing s with
  | nil => rw [run] at h; cases h; exact ⟨ha, hm⟩
  | cons t r ih =>
    rw [run] at h
    cases hs : step s t with
    | error e => rw [hs] at h; cases h
    | ok s1 =>
      rw [hs] at h
      have hr : ∀ t ∈ r, P t := fun u hu => hP u (List.mem_cons_of_mem _ hu)
      have ht : P t := hP t List.mem_cons_self
      rcases step_ok hs with ⟨h1, h2, rfl⟩ | ⟨l, h1, h2, rfl⟩ | ⟨l, a, h1, h2, rfl⟩ | ⟨l, a, h1, h2, _, _, rfl⟩ | ⟨l, a, h1, h2, _, _, rfl⟩ <;> rw [h1] at hm
      · exact ih h hr ha ⟨h2, ht⟩
      · exact ih h hr ha ⟨hm, fun u hu => by simp at hu⟩
      · refine ih h hr ha ⟨hm.1, fun u hu => ?_⟩
        rcases List.mem_append.1 hu with hu | hu
        · exact hm.2 u hu
        · simp at hu; subst hu; exact ⟨h2, ht⟩
      · refine ih h hr (fun x hx => ?_) ⟨hm.1, fun u hu => by simp at hu⟩
        rcases List.mem_append.1 hx with hx | hx
        · exact ha x hx
        · simp at hx; subst hx; exact hm
      · refine ih h hr (fun x hx => ?_) trivial
        rcases List.mem_append.1 hx with hx | hx
        · exact ha x hx
        · simp at hx; subst hx; exact hm

theorem alts_mem (P : Tk → Prop) {ts : List Tk} {l : List Al} (h : run ⟨[], .start⟩ ts = .ok ⟨l, .start⟩) (hP : ∀ t ∈ ts, P t) : ∀ x ∈ l, alP P x :=
  (run_mem P h hP (fun x hx => by simp at hx) trivial).1
end Go.Proofs.Ytimjopaedfefmaa.Rd
