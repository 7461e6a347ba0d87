/-
  Rows of rows of numbers: one's own, as they grow; whoever's, as they are read (layers 8, 9 ..).
-/
import Derived.Test.YtdjjconccneaiaaGreatFiLefts
namespace Go.Proofs.YtdjjconccneaiaaGreat
open Go.RowKit Go.Conc

/-- rows of numbers in a row -/
def LisAt (N : Nat) (w : World) (ao : Option Addr) (xss : List (List Int)) : Prop :=
  ∀ i (_ : i < xss.length), ∃ b o ro rc, ao = some ⟨b, o, none⟩ ∧ b < N ∧ b < w.heap.size ∧ w.cell? ⟨b, o + i, none⟩ = some (.slice ro xss[i].length rc) ∧ IntsAt N w ro xss[i]
theorem LisAt.later {N : Nat} {w w' : World} {ao : Option Addr} {xss : List (List Int)} (h : LisAt N w ao xss) (hb : Below N w w') : LisAt N w' ao xss := by
  intro i hi
  obtain ⟨b, o, ro, rc, e, h1, h2, c, h3⟩ := h i hi
  exact ⟨b, o, ro, rc, e, h1, Nat.lt_of_lt_of_le h2 hb.size, (hb.cell h1).trans c, h3.later hb⟩
theorem LisAt.size {N : Nat} {w : World} {ao : Option Addr} {xss : List (List Int)} (h : LisAt N w ao xss) : LisAt w.heap.size w ao xss := by
  intro i hi
  obtain ⟨b, o, ro, rc, e, h1, h2, c, h3⟩ := h i hi
  exact ⟨b, o, ro, rc, e, h2, h2, c, h3.size⟩
theorem LisAt.next {w w' : World} {ao : Option Addr} {xss : List (List Int)} (h : LisAt w.heap.size w ao xss) (hb : Below w.heap.size w w') : LisAt w'.heap.size w' ao xss := (h.later hb).size
theorem LisAt.nil {N : Nat} {w : World} {ao : Option Addr} : LisAt N w ao [] := fun i hi => by simp at hi

/-- rows of numbers in a row of one's own -/
def OwnRows (base : Nat) (w : World) (v : Value) (xss : List (List Int)) : Prop :=
  ∃ vs : List Value, w.ownsRow base 26 1 v xss.length vs ∧ vs.length = xss.length ∧ ∀ i (_ : i < vs.length), OwnInts base w vs[i] (xss.getD i [])
theorem OwnRows.nil (base : Nat) (w : World) : OwnRows base w (.slice none 0 0) [] := ⟨[], World.ownsRow_nil _ _ _ _, rfl, fun i hi => by simp at hi⟩
theorem OwnRows.below {base : Nat} {w w' : World} {v : Value} {xss : List (List Int)} (h : OwnRows base w v xss) (hb : Below w.heap.size w w') : OwnRows base w' v xss := by
  obtain ⟨vs, h1, h2, h3⟩ := h
  exact ⟨vs, ownsRow_below h1 hb, h2, fun i hi => ownsRow_below (h3 i hi) hb⟩
theorem OwnRows.read {base : Nat} {w : World} {v : Value} {xss : List (List Int)} (h : OwnRows base w v xss) : ∃ ao c, v = .slice ao xss.length c ∧ LisAt w.heap.size w ao xss ∧ xss.length ≤ c := by
  obtain ⟨vs, h1, h2, h3⟩ := h
  have key : ∀ g cap, v = .slice (some ⟨g, 0, none⟩) xss.length cap → LisAt w.heap.size w (some ⟨g, 0, none⟩) xss := fun g cap e i hi => by
    subst e
    have hi' : i < vs.length := by omega
    have hc := World.ownsRow.cells h1 (g := g) rfl i vs[i] (by simp [hi'])
    rw [addr_zero_add] at hc
    obtain ⟨ro, rc, e2, h4, _⟩ := OwnInts.read (h3 i hi')
    have hx : xss.getD i [] = xss[i] := by simp [List.getD_eq_getElem?_getD, hi]
    rw [hx] at e2 h4
    have hlt := World.block_lt_of_cell? _ _ hc
    exact ⟨g, 0, ro, rc, rfl, hlt, hlt, by rw [Nat.zero_add, hc, e2], h4.size⟩
  rcases h1.2 with ⟨e, h0⟩ | ⟨g, cap, cur, e, _, _, hle, _⟩
  · have : xss = [] := List.eq_nil_of_length_eq_zero h0
    subst this
    exact ⟨none, 0, e, LisAt.nil, Nat.zero_le _⟩
  · exact ⟨_, cap, e, key g cap e, hle⟩
theorem OwnRows.push {base : Nat} {w w1 : World} {v v' u : Value} {xss : List (List Int)} {xs : List Int} {vs : List Value} (h1 : w.ownsRow base 26 1 v xss.length vs) (h2 : vs.length = xss.length) (h3 : ∀ i (_ : i < vs.length), OwnInts base w vs[i] (xss.getD i [])) (hu : OwnInts base w u xs)
    (hg : w.grownBy w1 v.ownBlock) (ho : w1.ownsRow base 26 1 v' (xss.length + 1) (vs ++ [u])) : OwnRows base w1 v' (xss ++ [xs]) := by
  refine ⟨vs ++ [u], by rw [List.length_append]; exact ho, by simp [h2], fun i hi => ?_⟩
  have kp : ∀ {z : Value} {ys : List Int}, OwnInts base w z ys → OwnInts base w1 z ys := fun hz => World.ownsRow.kept hz hg (row_apart hz h1 (by decide))
  by_cases e : i < vs.length
  · rw [List.getElem_append_left e, show (xss ++ [xs]).getD i [] = xss.getD i [] from by simp [List.getD_eq_getElem?_getD, List.getElem?_append_left (show i < xss.length by omega)]]
    exact kp (h3 i e)
  · have hi' : i = vs.length := by simp at hi; omega
    subst hi'
    rw [List.getElem_append_right (Nat.le_refl _), show (xss ++ [xs]).getD vs.length [] = xs from by simp [List.getD_eq_getElem?_getD, h2]]
    simpa using kp hu

/-- append of a row onto rows -/
theorem wpList_append_row {ops : Array Oper} {rest : List Oper} {o : Oper} {a : Act} {Q : Exit → Act → World → Prop} {w : World} (hw : Region.wanted o (yielded ops a.tmps) = true) (s x : Operand)
    (ho : o.op = .call { callee := .builtin .append, args := #[s, x], argTypes := #[37, 37] }) (base : Nat) (v : Value) (xss : List (List Int)) (hs : a.eval s = v) (hown : OwnRows base w v xss)
    (b c : Nat) (u : Value) (xs : List Int) (hu : OwnInts base w u xs) (hx : a.eval x = .slice (some ⟨b, 0, none⟩) 1 c) (hnews : w.cell? ⟨b, 0, none⟩ = some u)
    (hb : xss.length + 1 ≤ 8000) (hbase : base ≤ w.heap.size)
    (h : ∀ g cap w', OwnRows base w' (.slice (some ⟨g, 0, none⟩) (xss.length + 1) cap) (xss ++ [xs]) → w.grownBy w' v.ownBlock → wpList Tryz.prog ops Q rest (a.put o.dst (.slice (some ⟨g, 0, none⟩) (xss.length + 1) cap)) w') : wpList Tryz.prog ops Q (o :: rest) a w := by
  obtain ⟨iA, hi, hz0, hz1, hz2⟩ := info_parts Tryz.infoRowI
  obtain ⟨vs, h1, h2, h3⟩ := hown
  obtain ⟨uo, uc, rfl, _⟩ := OwnInts.read hu
  refine wpList_wanted hw fun K hK => wp_append_lies _ s x 37 ho base 26 iA _ 1 24 Tryz.underlying37 hi hz0 hz1 hz2 rfl (by decide) v xss.length vs hs h1 ⟨b, 0, none⟩ 1 c [.slice uo xs.length uc] hx rfl ?_ (by simp [Value.oneCell']) (by decide) (by unfold maxLen; omega) (by omega) hbase _ rfl
    (fun g cap w' g2 g3 g4 _ => hK _ _ (h g cap w' (OwnRows.push h1 h2 h3 hu g3 g2) g3))
  intro j y hj
  cases j with
  | zero => simp at hj; subst hj; simpa [addr_zero_add] using hnews
  | succ j => simp at hj
end Go.Proofs.YtdjjconccneaiaaGreat
