/-
  Layer 10 (depend): occurrences in memory, whoever's and one's own; append of one.
-/
import Derived.Test.YtdocbgfpnaiijaaDpSearch
import Derived.Test.YtdocbgfpnaiijaaReadAppend
namespace Go.Proofs.Ytdocbgfpnaiijaa
open Go.RowKit Go.Conc

/-- occurrences that lie in memory, below a block, whoever's -/
def SpotsAt (N : Nat) (w : World) (ao : Option Addr) (l : List (Int × Int)) : Prop :=
  ∀ i (_ : i < l.length), ∃ b o, ao = some ⟨b, o, none⟩ ∧ b < N ∧ b < w.heap.size ∧ w.cell? ⟨b, o + i * 2, none⟩ = some (.int .i64 l[i].1) ∧ w.cell? ⟨b, o + i * 2 + 1, none⟩ = some (.int .i64 l[i].2)
theorem SpotsAt.later {N : Nat} {w w' : World} {ao : Option Addr} {l : List (Int × Int)} (h : SpotsAt N w ao l) (hb : Below N w w') : SpotsAt N w' ao l := by
  intro i hi
  obtain ⟨b, o, rfl, h1, h2, c0, c1⟩ := h i hi
  exact ⟨b, o, rfl, h1, Nat.lt_of_lt_of_le h2 hb.size, (hb.cell h1).trans c0, (hb.cell h1).trans c1⟩
theorem SpotsAt.size {N : Nat} {w : World} {ao : Option Addr} {l : List (Int × Int)} (h : SpotsAt N w ao l) : SpotsAt w.heap.size w ao l := by
  intro i hi
  obtain ⟨b, o, rfl, h1, h2, h3⟩ := h i hi
  exact ⟨b, o, rfl, h2, h2, h3⟩
theorem SpotsAt.next {w w' : World} {ao : Option Addr} {l : List (Int × Int)} (h : SpotsAt w.heap.size w ao l) (hb : Below w.heap.size w w') : SpotsAt w'.heap.size w' ao l := (h.later hb).size
theorem SpotsAt.nil {N : Nat} {w : World} {ao : Option Addr} : SpotsAt N w ao [] := fun i hi => by simp at hi

def spCells (l : List (Int × Int)) : List Value := l.flatMap fun s => [.int .i64 s.1, .int .i64 s.2]
theorem spCells_len (l : List (Int × Int)) : (spCells l).length = l.length * 2 := by
  induction l with
  | nil => rfl
  | cons s l ih => simp [spCells, List.flatMap_cons] at ih ⊢; omega
theorem spCells_get (l : List (Int × Int)) : ∀ i (hi : i < l.length), (spCells l)[i * 2]? = some (.int .i64 l[i].1) ∧ (spCells l)[i * 2 + 1]? = some (.int .i64 l[i].2) := by
  induction l with
  | nil => intro i hi; simp at hi
  | cons s l ih =>
    intro i hi
    have e : spCells (s :: l) = .int .i64 s.1 :: .int .i64 s.2 :: spCells l := by simp [spCells, List.flatMap_cons]
    cases i with
    | zero => rw [e]; exact ⟨rfl, rfl⟩
    | succ i =>
      have hi' : i < l.length := by simpa using hi
      obtain ⟨a, b⟩ := ih i hi'
      rw [e, show (i + 1) * 2 = i * 2 + 1 + 1 by omega, show i * 2 + 1 + 1 + 1 = (i * 2 + 1) + 1 + 1 by omega]
      simp only [List.getElem?_cons_succ, List.getElem_cons_succ]
      exact ⟨a, b⟩
/-- occurrences of one's own -/
def OwnSpots (base : Nat) (w : World) (v : Value) (l : List (Int × Int)) : Prop := w.ownsRow base 48 2 v l.length (spCells l)
theorem OwnSpots.nil (base : Nat) (w : World) : OwnSpots base w (.slice none 0 0) [] := World.ownsRow_nil _ _ _ _
theorem OwnSpots.below {base : Nat} {w w' : World} {v : Value} {l : List (Int × Int)} (h : OwnSpots base w v l) (hb : Below w.heap.size w w') : OwnSpots base w' v l := ownsRow_below h hb
theorem OwnSpots.read {base : Nat} {w : World} {v : Value} {l : List (Int × Int)} (h : OwnSpots base w v l) : ∃ ao c, v = .slice ao l.length c ∧ SpotsAt w.heap.size w ao l := by
  have hc : w.ownsRow base 48 2 v l.length (spCells l) := h
  rcases h.2 with ⟨rfl, h0⟩ | ⟨g, cap, cur, rfl, hg, hh, hl, hm, _⟩
  · have : l = [] := List.eq_nil_of_length_eq_zero h0
    subst this
    exact ⟨none, 0, rfl, .nil⟩
  · have hlt := (Array.getElem?_eq_some_iff.1 hh).1
    refine ⟨_, _, rfl, fun i hi => ?_⟩
    obtain ⟨k0, k1⟩ := spCells_get l i hi
    refine ⟨g, 0, rfl, hlt, hlt, ?_, ?_⟩
    · have := hc.cells (g := g) rfl _ _ k0
      rw [addr_zero_add] at this; rw [Nat.zero_add]; exact this
    · have := hc.cells (g := g) rfl _ _ k1
      rw [addr_zero_add] at this; rw [Nat.zero_add]; exact this
theorem Try.infoSpot : (Try.prog.info? 48).map (fun i => (i.zero, i.size, i.bytes)) = some (some (.agg #[.int .i64 0, .int .i64 0]), 2, 16) := by kernel_rfl
/-- append of an occurrence -/
theorem wpList_append_spot {ops : Array Oper} {rest : List Oper} {o : Oper} {a : Act} {Q : Exit → Act → World → Prop} {w : World} (hw : Region.wanted o (yielded ops a.tmps) = true) (s x : Operand)
    (ho : o.op = .call { callee := .builtin .append, args := #[s, x], argTypes := #[35, 35] }) (base : Nat) (v : Value) (l : List (Int × Int)) (hs : a.eval s = v) (hown : OwnSpots base w v l)
    (b c : Nat) (p : Int × Int) (hx : a.eval x = .slice (some ⟨b, 0, none⟩) 1 c) (h0 : w.cell? ⟨b, 0, none⟩ = some (.int .i64 p.1)) (h1 : w.cell? ⟨b, 1, none⟩ = some (.int .i64 p.2))
    (hb : l.length + 1 ≤ 2000) (hbase : base ≤ w.heap.size)
    (h : ∀ g cap w', OwnSpots base w' (.slice (some ⟨g, 0, none⟩) (l.length + 1) cap) (l ++ [p]) → w.grownBy w' v.ownBlock → wpList Try.prog ops Q rest (a.put o.dst (.slice (some ⟨g, 0, none⟩) (l.length + 1) cap)) w') : wpList Try.prog ops Q (o :: rest) a w := by
  obtain ⟨iA, hi, hz0, hz1, hz2⟩ := info_parts Try.infoSpot
  exact wpList_wanted hw fun K hK => wp_append_lies _ s x 35 ho base 48 iA _ 2 16 Try.underlying35 hi hz0 hz1 hz2 rfl (by decide) v l.length (spCells l) hs hown ⟨b, 0, none⟩ 1 c [.int .i64 p.1, .int .i64 p.2] hx rfl
    (fun j u hj => by
      match j, hj with
      | 0, hj => simp only [List.getElem?_cons_zero, Option.some.injEq] at hj; subst hj; exact h0
      | 1, hj => simp only [List.getElem?_cons_succ, List.getElem?_cons_zero, Option.some.injEq] at hj; subst hj; exact h1
      | n + 2, hj => simp at hj) (by simp [Value.oneCell']) (by decide) (by unfold maxLen; omega) (by omega) hbase _ rfl
    (fun g cap w' h2 h3 _ _ => hK _ _ (h g cap w' (by
      show w'.ownsRow _ _ _ _ _ _
      have e : spCells (l ++ [p]) = spCells l ++ [.int .i64 p.1, .int .i64 p.2] := by simp [spCells, List.flatMap_append]
      rw [e, List.length_append]; exact h2) h3))
end Go.Proofs.Ytdocbgfpnaiijaa
