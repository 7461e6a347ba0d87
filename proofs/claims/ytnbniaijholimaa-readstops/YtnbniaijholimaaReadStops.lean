/-
  The law ReadStops, walked: it returns true, of every row of tokens, every token, every small number.
-/
import Derived.Test.YtnbniaijholimaaReadStopsA
import Derived.Test.YtnbniaijholimaaReadStopsB
namespace Go.Proofs.Ytnbniaijholimaa
open Go.RowKit

theorem readStops_walk (ao : Option Addr) (c : Nat) (ts : List Rd.Tk) (x : Rd.Tk) (n : Int) (w : World) (hT : TksAt w.heap.size w ao ts) (hc : ts.length ≤ c ∧ c ≤ maxLen) (hm : ∀ t ∈ ts, t.text.size ≤ maxLen) (hx : x.text.size ≤ maxLen)
    (hn : (Lit.int .u8 n).wf = true) :
    Calls Try.prog 3 #[.slice ao ts.length c, .agg #[.int .i64 x.kind, .string x.text, .int .i64 x.pos], .int .u8 n] w fun e w' => e = .returned (.bool true) ∧ Below w.heap.size w w' := by
  have b0 := (bounds_u8 hn).1
  have b1 := (bounds_u8 hn).2
  by_cases h1 : fair ts = true
  · by_cases h2 : x.text.size ≤ 500
    · by_cases h3 : x.kind = 1
      · exact readStops_out ao c ts x n w hT hc hm hx (.inr ⟨h1, .inr (.inl ⟨h2, h3⟩)⟩)
      · by_cases h4 : ts.length = 0
        · exact readStops_out ao c ts x n w hT hc hm hx (.inr ⟨h1, .inr (.inr ⟨h2, h3, h4⟩)⟩)
        · by_cases h5 : c = stopAt ts n.toNat
          · exact readStops_eq ao c ts x n w hT hc hm b0 (by omega) h1 h2 h3 h4 h5
          · exact readStops_ne ao c ts x n w hT hc hm b0 (by omega) h1 h2 h3 h4 h5
    · exact readStops_out ao c ts x n w hT hc hm hx (.inr ⟨h1, .inl (by omega)⟩)
  · exact readStops_out ao c ts x n w hT hc hm hx (.inl (by simpa using h1))
end Go.Proofs.Ytnbniaijholimaa
