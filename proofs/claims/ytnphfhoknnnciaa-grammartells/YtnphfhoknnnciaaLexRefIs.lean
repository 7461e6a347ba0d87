/-
  The document's own Tokens, where what they come to is known, as layer 2's tokens.
-/
import Derived.Test.YtnphfhoknnnciaaLexRefTokens
import Derived.Test.YtnphfhoknnnciaaReadTok
namespace Go.Proofs.Ytnphfhoknnnciaa
open Go.RowKit

theorem refTokens_any (s : ByteArray) (w : World) (hs : s.size ≤ maxLen) : Calls Try.prog 29 #[.string s] w (RefPost s w) := by
  by_cases h : 2000 < s.size
  · exact refTokens_large s w hs h
  · exact refTokens_small s w (by omega)

theorem refTokens_tks (s : ByteArray) (E At : Int) (us : List Lx.Tok) (ts : List Rd.Tk) (w : World) (hs : s.size ≤ maxLen) (HG : Hid (tokensG s.data.toList = (E, At, us))) (ht : us.map tkOf = ts) :
    Calls Try.prog 29 #[.string s] w fun e w' => ∃ ao c, e = .returned (.agg #[.slice ao ts.length c, .int .i64 E, .int .i64 At]) ∧ Hid (Below w.heap.size w w') ∧
      Hid (TksAt w'.heap.size w' ao ts) ∧ Hid (ts.length ≤ c ∧ c ≤ maxLen) := by
  refine (refTokens_any s w hs).mono ?_
  rintro e w1 ⟨hb, ao, n, c, rfl, hown⟩
  rw [HG.out] at hown ⊢
  simp only at hown
  rw [toksCells_tks, ht, show us.length = ts.length from by rw [← ht, List.length_map]] at hown
  obtain ⟨ao', c', hv, h1, h2, h3, _⟩ := tks_read hown
  cases hv
  exact ⟨_, _, rfl, hb, h1, h2, h3⟩
end Go.Proofs.Ytnphfhoknnnciaa
