/-
  The mathematics of layer 3: a fault's place lies in the text; what the tokens of a text are.
-/
import Derived.Test.YtimjopaedfefmaaGrTop
import Derived.Test.YtimjopaedfefmaaGrMathB
import Derived.Test.YtimjopaedfefmaaLexPlacesMath
import Derived.Test.YtimjopaedfefmaaLexRunMath
namespace Go.Proofs.Ytimjopaedfefmaa.Rd

theorem step_pos (P : Tk → Prop) (Q : Int → Prop) (hPQ : ∀ t, P t → Q t.pos) {s : St} {t : Tk} {e : Er} (h : step s t = .error e) (ht : P t) (hm : mdP P s.md) : Q e.2 := by
  obtain ⟨acc, md⟩ := s
  cases md with
  | start =>
    by_cases k : t.kind = 1
    · rw [step_name k] at h; cases h
    · rw [step_noname k] at h; cases h; exact hPQ t ht
  | eq l =>
    by_cases k : t.kind = 3
    · rw [step_is k] at h; cases h
    · rw [step_nois k] at h; cases h; exact hPQ t ht
  | body l a =>
    by_cases k : t.kind = 1 ∨ t.kind = 2
    · rw [step_sym k] at h; cases h
    by_cases k2 : t.kind = 4 ∨ t.kind = 5
    · by_cases k3 : 60 ≤ acc.length ∨ 8 < a.length
      · rw [step_large k2 k3] at h; cases h; exact hPQ l hm.1.2
      · rcases k2 with k2 | k2
        · rw [step_bar k2 k3] at h; cases h
        · rw [step_end k2 k3] at h; cases h
    · rw [step_other k k2] at h; cases h; exact hPQ t ht

theorem run_errpos (P : Tk → Prop) (Q : Int → Prop) (hPQ : ∀ t, P t → Q t.pos) : ∀ (ts : List Tk) (s : St) (e : Er), run s ts = .error e → (∀ t ∈ ts, P t) → (∀ x ∈ s.acc, alP P x) → mdP P s.md → Q e.2
  | [], s, e, h, _, _, _ => by rw [run] at h; cases h
  | t :: r, s, e, h, hP, ha, hm => by
    rw [run] at h
    cases hs : step s t with
    | error e1 => rw [hs] at h; cases h; exact step_pos P Q hPQ hs (hP t List.mem_cons_self) hm
    | ok s1 =>
      rw [hs] at h
      have h1 : run s [t] = .ok s1 := by rw [run, hs]; rfl
      obtain ⟨ha1, hm1⟩ := run_mem P h1 (fun u hu => by rw [List.mem_singleton.1 hu]; exact hP t List.mem_cons_self) ha hm
      exact run_errpos P Q hPQ r s1 e h (fun u hu => hP u (List.mem_cons_of_mem _ hu)) ha1 hm1

theorem alts_errpos (P : Tk → Prop) (Q : Int → Prop) (hPQ : ∀ t, P t → Q t.pos) {ts : List Tk} {en : Int} {e : Er} (h : alts ts en = .error e) (hP : ∀ t ∈ ts, P t) (hen : Q en) : Q e.2 := by
  unfold alts whole at h
  cases hr : run ⟨[], .start⟩ ts with
  | error e1 => rw [hr] at h; cases h; exact run_errpos P Q hPQ ts _ _ hr hP (fun x hx => by simp at hx) trivial
  | ok s1 =>
    rw [hr] at h
    simp only at h
    rcases fin_cases en s1 with ⟨h1, _⟩ | ⟨h1, _⟩
    · rw [h1] at h; cases h; exact hen
    · rw [h1] at h; cases h
end Go.Proofs.Ytimjopaedfefmaa.Rd

namespace Go.Proofs.Ytimjopaedfefmaa.Gr
open Go.Proofs.Ytimjopaedfefmaa.Rd
theorem undef_mem (ns : List ByteArray) : ∀ (zs : List Al) (p : Int), undef ns zs = some p → ∃ a ∈ zs, ∃ t ∈ a.2, t.pos = p := by
  have hT : ∀ (ts : List Tk) (p : Int), undefT ns ts = some p → ∃ t ∈ ts, t.pos = p := by
    intro ts
    induction ts with
    | nil => intro p h; cases h
    | cons u r ih =>
      intro p h
      rw [undefT] at h
      split at h
      · cases h; exact ⟨u, List.mem_cons_self, rfl⟩
      · obtain ⟨t, ht, e⟩ := ih p h; exact ⟨t, List.mem_cons_of_mem _ ht, e⟩
  intro zs
  induction zs with
  | nil => intro p h; cases h
  | cons z r ih =>
    intro p h
    rw [undef] at h
    cases h1 : undefT ns z.2 with
    | some q =>
      rw [h1] at h
      cases h
      obtain ⟨t, ht, e⟩ := hT _ _ h1
      exact ⟨z, List.mem_cons_self, t, ht, e⟩
    | none =>
      rw [h1] at h
      obtain ⟨a, ha, h2⟩ := ih p h
      exact ⟨a, List.mem_cons_of_mem _ ha, h2⟩
end Go.Proofs.Ytimjopaedfefmaa.Gr

namespace Go.Proofs.Ytimjopaedfefmaa

theorem tkOf_good {us : List Lx.Tok} {l : List UInt8} (h : Lx.tokens l = .ok us) : ∀ t ∈ us.map tkOf, Gr.tkGood t ∧ 0 ≤ t.pos ∧ t.pos ≤ l.length := by
  intro t ht
  obtain ⟨u, hu, rfl⟩ := List.mem_map.1 ht
  have hg := Lx.tokens_good h u hu
  have hp := Lx.tokens_pos h u hu
  refine ⟨⟨fun hk => ?_, fun hk => ?_⟩, ?_, ?_⟩
  · have hk' : u.kind = 1 := by have : (u.kind : Int) = 1 := hk; omega
    rcases hg with ⟨_, hg⟩ | ⟨e, _⟩ | ⟨e, _⟩ | ⟨e, _⟩ | ⟨e, _⟩ <;> first | (simpa [tkOf] using hg) | omega
  · have hk' : u.kind = 2 := by have : (u.kind : Int) = 2 := hk; omega
    rcases hg with ⟨e, _⟩ | ⟨_, hg⟩ | ⟨e, _⟩ | ⟨e, _⟩ | ⟨e, _⟩ <;> first | (simpa [tkOf] using hg) | omega
  · show (0 : Int) ≤ (u.pos : Int); omega
  · show (u.pos : Int) ≤ _; omega

/-- what a text comes to: a fault in it, or a grammar that may be, of its alternatives -/
theorem ofS_cases (l : List UInt8) :
    (∃ n a : Int, n ≠ 0 ∧ 0 ≤ a ∧ a ≤ l.length ∧ ofS l = (n, a, ⟨[], [], []⟩)) ∨
    (∃ g us xs, ofS l = (0, 0, g) ∧ tokensG l = (0, 0, us) ∧ Lx.tokens l = .ok us ∧ l.length ≤ 2000 ∧ Rd.run ⟨[], .start⟩ (us.map tkOf) = .ok ⟨xs, .start⟩ ∧ xs ≠ [] ∧ xs.length ≤ 60 ∧ (∀ x ∈ xs, x.2.length ≤ 8) ∧ Gr.of xs = .ok g ∧ Gr.good g = true) := by
  rcases toksOf_cases l with ⟨us, ht, hl, hE⟩ | ⟨n, a, hn, ha, hE, hG⟩
  · have hgood := tkOf_good ht
    have hG : tokensG l = (0, 0, us) := by unfold tokensG; rw [if_neg (by omega), ht]
    rcases Rd.altsG_cases (us.map tkOf) l.length with ⟨xs, h1, h2, h3, h4⟩ | ⟨⟨en, ea⟩, h1, h2, h3⟩
    · have hsm := Rd.altsG_small h2
      have hof : ofS l = outG (Gr.of xs) := by unfold ofS Gr.ofG; rw [hE]; simp only [h2]; cases Gr.of xs <;> rfl
      have hal := Rd.alts_mem (fun t => Gr.tkGood t ∧ 0 ≤ t.pos ∧ t.pos ≤ l.length) h3 hgood
      cases ho : Gr.of xs with
      | ok g =>
        rw [ho] at hof
        refine .inr ⟨g, us, xs, hof, hG, ht, hl, h3, h4, hsm.1, hsm.2, ho, ?_⟩
        exact Gr.good_of (fun x hx => ⟨⟨(hal x hx).1.1, (hal x hx).1.2.1⟩, fun t ht => ⟨((hal x hx).2 t ht).1, ((hal x hx).2 t ht).2.1⟩⟩) h4 hsm.1 hsm.2 ho
      | error e =>
        rw [ho] at hof
        left
        unfold Gr.of at ho
        split at ho
        · rename_i p hu
          cases ho
          obtain ⟨a, ha, t, ht', e⟩ := Gr.undef_mem _ _ _ hu
          have := ((hal a ha).2 t ht').2.2
          exact ⟨13, p, by decide, by omega, by omega, hof⟩
        · split at ho
          · cases ho; exact ⟨14, 0, by decide, by omega, by omega, hof⟩
          · cases ho
    · left
      simp only at h2 h3
      have hz : en ≠ 0 := by omega
      have hq := Rd.alts_errpos (fun t => 0 ≤ t.pos ∧ t.pos ≤ l.length) (fun p => 0 ≤ p ∧ p ≤ l.length) (fun t h => h) h1 (fun t ht => (hgood t ht).2) ⟨by omega, by omega⟩
      exact ⟨en, ea, hz, hq.1, hq.2, by unfold ofS Gr.ofG; rw [hE]; simp [h2, hz]⟩
  · left
    have hz : n ≠ 0 := by omega
    refine ⟨n, a, hz, ha, ?_, by unfold ofS Gr.ofG; rw [hE]; simp [hz]⟩
    unfold tokensG at hG
    by_cases h2 : 2000 < l.length
    · rw [if_pos h2] at hG; cases hG; omega
    · rw [if_neg h2] at hG
      cases ht : Lx.tokens l with
      | ok us => rw [ht] at hG; cases hG; exact absurd rfl hz
      | error p => rw [ht] at hG; cases hG; have := Lx.tokens_error ht; omega
end Go.Proofs.Ytimjopaedfefmaa
