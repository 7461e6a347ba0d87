/-
  The mathematics of the law GrammarMay: alternatives are laid down one behind the other; what must come next.
-/
import Derived.Test.YtimjopaedfefmaaReadMath2
namespace Go.Proofs.Ytimjopaedfefmaa.Rd

theorem run_accpre : ∀ (ts : List Tk) (s s' : St), run s ts = .ok s' → s.acc <+: s'.acc
  | [], s, s', h => by rw [run] at h; cases h; exact List.prefix_refl _
  | t :: r, s, s', h => by
    rw [run] at h
    cases hs : step s t with
    | error e => rw [hs] at h; cases h
    | ok s1 =>
      rw [hs] at h
      refine List.IsPrefix.trans ?_ (run_accpre r s1 s' h)
      rcases step_ok hs with ⟨_, _, rfl⟩ | ⟨l, _, _, rfl⟩ | ⟨l, a, _, _, rfl⟩ | ⟨l, a, _, _, _, _, rfl⟩ | ⟨l, a, _, _, _, _, rfl⟩
      · exact List.prefix_refl _
      · exact List.prefix_refl _
      · exact List.prefix_refl _
      · exact List.prefix_append _ _
      · exact List.prefix_append _ _

/-- behind a left side comes its sign -/
theorem run_needs {acc : List Al} {l : Tk} {ts : List Tk} {xs : List Al} (h : run ⟨acc, .eq l⟩ ts = .ok ⟨xs, .start⟩) : ∃ t r, ts = t :: r ∧ t.kind = 3 := by
  cases ts with
  | nil => rw [run] at h; cases h
  | cons t r =>
    refine ⟨t, r, rfl, ?_⟩
    by_cases k : t.kind = 3
    · exact k
    · rw [run, step_nois k] at h; cases h

/-- no such sign comes within a right side -/
theorem run_bars_not {acc : List Al} {l : Tk} {a : List Tk} {t : Tk} {r : List Tk} {xs : List Al} (h : run ⟨acc, .body l a⟩ (t :: r) = .ok ⟨xs, .start⟩) : t.kind ≠ 3 := by
  intro k
  rw [run, step_other (by omega) (by omega)] at h; cases h
end Go.Proofs.Ytimjopaedfefmaa.Rd
