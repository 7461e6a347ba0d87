/-
  Layer 2 (read): what alternatives in memory read as, and layer 1's tokens as layer 2's.
-/
import Derived.Test.YtimjopaedfefmaaReadAlts
namespace Go.Proofs.Ytimjopaedfefmaa
open Go.RowKit

theorem AlsAt.right {base : Nat} {w : World} {ao : Option Addr} {n c : Nat} {xs : List Rd.Al} (h : AlsAt base w (.slice ao n c) xs) : ∀ i (hi : i < xs.length), ∃ g ro rc, ao = some ⟨g, 0, none⟩ ∧ g < w.heap.size ∧
      w.cell? ⟨g, i * 4, none⟩ = some (.int .i64 xs[i].1.kind) ∧ w.cell? ⟨g, i * 4 + 1, none⟩ = some (.string xs[i].1.text) ∧ w.cell? ⟨g, i * 4 + 2, none⟩ = some (.int .i64 xs[i].1.pos) ∧
      w.cell? ⟨g, i * 4 + 3, none⟩ = some (.slice ro xs[i].2.length rc) ∧ TksAt w.heap.size w ro xs[i].2 := by
  intro i hi
  obtain ⟨ao', c', hv, _, hr⟩ := h.read
  cases hv
  obtain ⟨g, ro, rc, h1, _, h2, h3⟩ := hr i hi
  exact ⟨g, ro, rc, h1, h2, h3⟩

theorem TksAt.drewN {N : Nat} {w : World} {ao : Option Addr} {ts : List Rd.Tk} (h : TksAt N w ao ts) (n : Nat) : TksAt N (w.drewN n) ao ts := h.later (below_drewN (Below.refl _ w) n)

/-- a token of layer 1 -/
def tkOf (t : Lx.Tok) : Rd.Tk := ⟨t.kind, ⟨t.text.toArray⟩, t.pos⟩
theorem toksCells_tks (us : List Lx.Tok) : toksCells us = tksCells (us.map tkOf) := by
  induction us with
  | nil => rfl
  | cons t r ih => rw [show toksCells (t :: r) = tokCells t ++ toksCells r from rfl, ih]; rfl

/-- Tokens where what it comes to is known -/
theorem rtokens_is (s : ByteArray) (E At : Int) (us : List Lx.Tok) (ts : List Rd.Tk) (w : World) (hs : s.size ≤ maxLen) (HG : Hid (tokensG s.data.toList = (E, At, us))) (ht : us.map tkOf = ts) :
    Calls Try.prog 11 #[.string s] w fun e w' => ∃ ao c, e = .returned (.tuple #[.slice ao ts.length c, .agg #[.int .i64 E, .int .i64 At]]) ∧ Hid (Below w.heap.size w w') ∧
      Hid (TksAt w'.heap.size w' ao ts) ∧ Hid (ts.length ≤ c ∧ c ≤ maxLen) := by
  refine (tokens_any s w hs).mono ?_
  rintro e w1 ⟨hb, v, rfl, hown⟩
  rw [HG.out] at hown ⊢
  simp only at hown
  rw [toksCells_tks, ht, show us.length = ts.length from by rw [← ht, List.length_map]] at hown
  obtain ⟨ao, c, rfl, h1, h2, h3, _⟩ := tks_read hown
  exact ⟨ao, c, rfl, hb, h1, h2, h3⟩
end Go.Proofs.Ytimjopaedfefmaa
