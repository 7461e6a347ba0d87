/-
  Layer 3 (grammar): texts, numbers, rules, grammars in memory.
-/
import Derived.Test.YtdocbgfpnaiijaaReadAlts
import Derived.Test.YtdocbgfpnaiijaaReadAppend
import Derived.Test.YtdocbgfpnaiijaaGrMath
namespace Go.Proofs.Ytdocbgfpnaiijaa
open Go.RowKit

/-- cells in a row that lie in memory, below a block, whoever's -/
def CellsAt (N : Nat) (w : World) (ao : Option Addr) (vs : List Value) : Prop :=
  ∀ i (_ : i < vs.length), ∃ b o, ao = some ⟨b, o, none⟩ ∧ b < N ∧ b < w.heap.size ∧ w.cell? ⟨b, o + i, none⟩ = some vs[i]

theorem CellsAt.later {N : Nat} {w w' : World} {ao : Option Addr} {vs : List Value} (h : CellsAt N w ao vs) (hb : Below N w w') : CellsAt N w' ao vs := by
  intro i hi
  obtain ⟨b, o, rfl, h1, h2, c⟩ := h i hi
  exact ⟨b, o, rfl, h1, Nat.lt_of_lt_of_le h2 hb.size, (hb.cell h1).trans c⟩
theorem CellsAt.mono {N N' : Nat} {w : World} {ao : Option Addr} {vs : List Value} (h : CellsAt N w ao vs) (hN : N ≤ N') : CellsAt N' w ao vs := by
  intro i hi
  obtain ⟨b, o, rfl, h1, h2⟩ := h i hi
  exact ⟨b, o, rfl, by omega, h2⟩
theorem CellsAt.size {N : Nat} {w : World} {ao : Option Addr} {vs : List Value} (h : CellsAt N w ao vs) : CellsAt w.heap.size w ao vs := by
  intro i hi
  obtain ⟨b, o, rfl, _, h2, h3⟩ := h i hi
  exact ⟨b, o, rfl, h2, h2, h3⟩
theorem CellsAt.nil {N : Nat} {w : World} {ao : Option Addr} : CellsAt N w ao [] := fun i hi => by simp at hi
theorem CellsAt.take {N : Nat} {w : World} {ao : Option Addr} {vs : List Value} (h : CellsAt N w ao vs) (k : Nat) : CellsAt N w ao (vs.take k) := by
  intro i hi
  rw [List.length_take] at hi
  obtain ⟨b, o, e, h1, h2, c⟩ := h i (by omega)
  exact ⟨b, o, e, h1, h2, by rw [List.getElem_take]; exact c⟩
theorem CellsAt.own {w : World} {base : Nat} {e : TypeId} {v : Value} {vs : List Value} (h : w.ownsRow base e 1 v vs.length vs) :
    ∃ ao c, v = .slice ao vs.length c ∧ CellsAt w.heap.size w ao vs ∧ vs.length ≤ c ∧ c ≤ maxLen ∧ (ao = none → vs = [] ∧ c = 0) := by
  have hc := h
  rcases h.2 with ⟨rfl, h0⟩ | ⟨g, cap, cur, rfl, hg, hh, hl, hm, _⟩
  · have : vs = [] := List.eq_nil_of_length_eq_zero h0
    subst this
    exact ⟨none, 0, rfl, CellsAt.nil, Nat.le_refl _, Nat.zero_le _, fun _ => ⟨rfl, rfl⟩⟩
  · have hlt := (Array.getElem?_eq_some_iff.1 hh).1
    refine ⟨_, _, rfl, fun i hi => ⟨g, 0, rfl, hlt, hlt, ?_⟩, hl, hm, fun h => by cases h⟩
    have := hc.cells (g := g) rfl i _ (List.getElem?_eq_getElem hi)
    rw [addr_zero_add] at this; simpa using this

/-- texts in memory -/
def StrsAt (N : Nat) (w : World) (ao : Option Addr) (ss : List ByteArray) : Prop := CellsAt N w ao (ss.map .string)
/-- numbers in memory -/
def IntsAt (N : Nat) (w : World) (ao : Option Addr) (xs : List Int) : Prop := CellsAt N w ao (xs.map (.int .i64))

theorem StrsAt.get {N : Nat} {w : World} {ao : Option Addr} {ss : List ByteArray} (h : StrsAt N w ao ss) (i : Nat) (hi : i < ss.length) :
    ∃ b o, ao = some ⟨b, o, none⟩ ∧ b < N ∧ b < w.heap.size ∧ w.cell? ⟨b, o + i, none⟩ = some (.string ss[i]) := by
  obtain ⟨b, o, e, h1, h2, c⟩ := h i (by simpa using hi)
  exact ⟨b, o, e, h1, h2, by rw [c, List.getElem_map]⟩
theorem IntsAt.get {N : Nat} {w : World} {ao : Option Addr} {xs : List Int} (h : IntsAt N w ao xs) (i : Nat) (hi : i < xs.length) :
    ∃ b o, ao = some ⟨b, o, none⟩ ∧ b < N ∧ b < w.heap.size ∧ w.cell? ⟨b, o + i, none⟩ = some (.int .i64 xs[i]) := by
  obtain ⟨b, o, e, h1, h2, c⟩ := h i (by simpa using hi)
  exact ⟨b, o, e, h1, h2, by rw [c, List.getElem_map]⟩
theorem StrsAt.later {N : Nat} {w w' : World} {ao : Option Addr} {ss : List ByteArray} (h : StrsAt N w ao ss) (hb : Below N w w') : StrsAt N w' ao ss := CellsAt.later h hb
theorem StrsAt.mono {N N' : Nat} {w : World} {ao : Option Addr} {ss : List ByteArray} (h : StrsAt N w ao ss) (hN : N ≤ N') : StrsAt N' w ao ss := CellsAt.mono h hN
theorem StrsAt.size {N : Nat} {w : World} {ao : Option Addr} {ss : List ByteArray} (h : StrsAt N w ao ss) : StrsAt w.heap.size w ao ss := CellsAt.size h
theorem StrsAt.nil {N : Nat} {w : World} {ao : Option Addr} : StrsAt N w ao [] := CellsAt.nil
theorem StrsAt.take {N : Nat} {w : World} {ao : Option Addr} {ss : List ByteArray} (h : StrsAt N w ao ss) (k : Nat) : StrsAt N w ao (ss.take k) := by
  unfold StrsAt; rw [List.map_take]; exact CellsAt.take h k
theorem IntsAt.later {N : Nat} {w w' : World} {ao : Option Addr} {xs : List Int} (h : IntsAt N w ao xs) (hb : Below N w w') : IntsAt N w' ao xs := CellsAt.later h hb
theorem IntsAt.mono {N N' : Nat} {w : World} {ao : Option Addr} {xs : List Int} (h : IntsAt N w ao xs) (hN : N ≤ N') : IntsAt N' w ao xs := CellsAt.mono h hN
theorem IntsAt.size {N : Nat} {w : World} {ao : Option Addr} {xs : List Int} (h : IntsAt N w ao xs) : IntsAt w.heap.size w ao xs := CellsAt.size h
theorem IntsAt.nil {N : Nat} {w : World} {ao : Option Addr} : IntsAt N w ao [] := CellsAt.nil

/-- rows of one's own -/
def OwnStrs (base : Nat) (w : World) (v : Value) (ss : List ByteArray) : Prop := w.ownsRow base 9 1 v ss.length (ss.map .string)
def OwnInts (base : Nat) (w : World) (v : Value) (xs : List Int) : Prop := w.ownsRow base 3 1 v xs.length (xs.map (.int .i64))

theorem OwnStrs.read {base : Nat} {w : World} {v : Value} {ss : List ByteArray} (h : OwnStrs base w v ss) :
    ∃ ao c, v = .slice ao ss.length c ∧ StrsAt w.heap.size w ao ss ∧ ss.length ≤ c ∧ c ≤ maxLen ∧ (ao = none → ss = [] ∧ c = 0) := by
  have h' : w.ownsRow base 9 1 v (ss.map Value.string).length (ss.map .string) := by rw [List.length_map]; exact h
  obtain ⟨ao, c, rfl, h1, h2, h3, h4⟩ := CellsAt.own h'
  rw [List.length_map] at h2 ⊢
  exact ⟨ao, c, rfl, h1, h2, h3, fun e => ⟨List.map_eq_nil_iff.1 (h4 e).1, (h4 e).2⟩⟩
theorem OwnInts.read {base : Nat} {w : World} {v : Value} {xs : List Int} (h : OwnInts base w v xs) :
    ∃ ao c, v = .slice ao xs.length c ∧ IntsAt w.heap.size w ao xs ∧ xs.length ≤ c ∧ c ≤ maxLen ∧ (ao = none → xs = [] ∧ c = 0) := by
  have h' : w.ownsRow base 3 1 v (xs.map (Value.int .i64)).length (xs.map (.int .i64)) := by rw [List.length_map]; exact h
  obtain ⟨ao, c, rfl, h1, h2, h3, h4⟩ := CellsAt.own h'
  rw [List.length_map] at h2 ⊢
  exact ⟨ao, c, rfl, h1, h2, h3, fun e => ⟨List.map_eq_nil_iff.1 (h4 e).1, (h4 e).2⟩⟩

/-- rules in memory -/
def RlsAt (N : Nat) (w : World) (ao : Option Addr) (rs : List Gr.Rl) : Prop :=
  ∀ i (_ : i < rs.length), ∃ b o ro rc, ao = some ⟨b, o, none⟩ ∧ b < N ∧ b < w.heap.size ∧
    w.cell? ⟨b, o + i * 2, none⟩ = some (.int .i64 rs[i].1) ∧ w.cell? ⟨b, o + i * 2 + 1, none⟩ = some (.slice ro rs[i].2.length rc) ∧ IntsAt N w ro rs[i].2 ∧ rs[i].2.length ≤ rc ∧ rc ≤ maxLen

theorem RlsAt.later {N : Nat} {w w' : World} {ao : Option Addr} {rs : List Gr.Rl} (h : RlsAt N w ao rs) (hb : Below N w w') : RlsAt N w' ao rs := by
  intro i hi
  obtain ⟨b, o, ro, rc, rfl, h1, h2, c0, c1, h3, h4⟩ := h i hi
  exact ⟨b, o, ro, rc, rfl, h1, Nat.lt_of_lt_of_le h2 hb.size, (hb.cell h1).trans c0, (hb.cell h1).trans c1, h3.later hb, h4⟩
theorem RlsAt.mono {N N' : Nat} {w : World} {ao : Option Addr} {rs : List Gr.Rl} (h : RlsAt N w ao rs) (hN : N ≤ N') : RlsAt N' w ao rs := by
  intro i hi
  obtain ⟨b, o, ro, rc, rfl, h1, h2, c0, c1, h3, h4⟩ := h i hi
  exact ⟨b, o, ro, rc, rfl, by omega, h2, c0, c1, h3.mono hN, h4⟩
theorem RlsAt.size {N : Nat} {w : World} {ao : Option Addr} {rs : List Gr.Rl} (h : RlsAt N w ao rs) : RlsAt w.heap.size w ao rs := by
  intro i hi
  obtain ⟨b, o, ro, rc, rfl, h1, h2, c0, c1, h3, h4⟩ := h i hi
  exact ⟨b, o, ro, rc, rfl, h2, h2, c0, c1, h3.size, h4⟩
theorem RlsAt.nil {N : Nat} {w : World} {ao : Option Addr} : RlsAt N w ao [] := fun i hi => by simp at hi
theorem RlsAt.take {N : Nat} {w : World} {ao : Option Addr} {rs : List Gr.Rl} (h : RlsAt N w ao rs) (k : Nat) : RlsAt N w ao (rs.take k) := by
  intro i hi
  rw [List.length_take] at hi
  obtain ⟨b, o, ro, rc, e, h1⟩ := h i (by omega)
  exact ⟨b, o, ro, rc, e, by rw [List.getElem_take]; exact h1⟩

/-- a rule's cells: its left side, its right side's value -/
def rlCells (p : Gr.Rl × Value) : List Value := [.int .i64 p.1.1, p.2]
def rlsCells (ps : List (Gr.Rl × Value)) : List Value := ps.flatMap rlCells
theorem rlsCells_append (a b : List (Gr.Rl × Value)) : rlsCells (a ++ b) = rlsCells a ++ rlsCells b := by simp [rlsCells]
theorem rlsCells_length (ps : List (Gr.Rl × Value)) : (rlsCells ps).length = ps.length * 2 := by
  induction ps with
  | nil => rfl
  | cons t r ih => rw [show rlsCells (t :: r) = rlCells t ++ rlsCells r from rfl, List.length_append, ih, List.length_cons, show (rlCells t).length = 2 from rfl]; omega
theorem rlsCells_get (ps : List (Gr.Rl × Value)) (i : Nat) (h : i < ps.length) : (rlsCells ps)[i * 2]? = some (.int .i64 ps[i].1.1) ∧ (rlsCells ps)[i * 2 + 1]? = some ps[i].2 := by
  induction ps generalizing i with
  | nil => simp at h
  | cons t r ih =>
    have e : rlsCells (t :: r) = .int .i64 t.1.1 :: t.2 :: rlsCells r := rfl
    cases i with
    | zero => rw [e]; exact ⟨rfl, rfl⟩
    | succ i =>
      have := ih i (by simpa using h)
      rw [e, show (i + 1) * 2 = i * 2 + 1 + 1 from by omega]
      simp only [List.getElem?_cons_succ, List.getElem_cons_succ]
      exact this

/-- rules that lie in rows of one's own, from a block on -/
def OwnRls (base : Nat) (w : World) (v : Value) (rs : List Gr.Rl) : Prop :=
  ∃ ps : List (Gr.Rl × Value), ps.map (·.1) = rs ∧ w.ownsRow base 31 2 v ps.length (rlsCells ps) ∧ ∀ p ∈ ps, OwnInts base w p.2 p.1.2

theorem OwnRls.nil (base : Nat) (w : World) : OwnRls base w (.slice none 0 0) [] := ⟨[], rfl, World.ownsRow_nil _ _ _ _, fun p hp => by simp at hp⟩
theorem OwnRls.below {base : Nat} {w w' : World} {v : Value} {rs : List Gr.Rl} (h : OwnRls base w v rs) (hb : Below w.heap.size w w') : OwnRls base w' v rs := by
  obtain ⟨ps, h1, h2, h3⟩ := h
  exact ⟨ps, h1, ownsRow_below h2 hb, fun p hp => ownsRow_below (h3 p hp) hb⟩
theorem OwnRls.from {base base' : Nat} {w : World} {v : Value} {rs : List Gr.Rl} (h : OwnRls base w v rs) (hb : base' ≤ base) : OwnRls base' w v rs := by
  obtain ⟨ps, h1, h2, h3⟩ := h
  exact ⟨ps, h1, ownsRow_from h2 hb, fun p hp => ownsRow_from (h3 p hp) hb⟩
theorem OwnRls.setCell {base : Nat} {w : World} {v : Value} {rs : List Gr.Rl} (h : OwnRls base w v rs) {a : Addr} (ha : a.block < base) (u : Value) : OwnRls base (w.setCell a u) v rs := by
  obtain ⟨ps, h1, h2, h3⟩ := h
  exact ⟨ps, h1, ownsRow_setCell_below h2 ha u, fun p hp => ownsRow_setCell_below (h3 p hp) ha u⟩

/-- rows of other types are other rows -/
theorem row_apart {w : World} {base base' : Nat} {e e' : TypeId} {z z' : Nat} {v v' : Value} {n n' : Nat} {xs xs' : List Value} (h : w.ownsRow base e z v n xs) (h' : w.ownsRow base' e' z' v' n' xs') (hne : e ≠ e') : v.ownBlock = none ∨ v.ownBlock ≠ v'.ownBlock := by
  rcases h.2 with ⟨rfl, _⟩ | ⟨g, cap, cur, rfl, _, hg, _⟩
  · exact .inl rfl
  · refine .inr fun ee => ?_
    rcases h'.2 with ⟨rfl, _⟩ | ⟨g', cap', cur', rfl, _, hg', _⟩
    · cases ee
    · have : g = g' := by simpa [Value.ownBlock] using ee
      subst this
      rw [hg] at hg'
      cases hg'
      exact hne rfl

/-- one rule more -/
theorem OwnRls.push {base : Nat} {w w1 : World} {v v' : Value} {rs : List Gr.Rl} {ps : List (Gr.Rl × Value)} (h1 : ps.map (·.1) = rs) (h2 : w.ownsRow base 31 2 v ps.length (rlsCells ps))
    (h3 : ∀ p ∈ ps, OwnInts base w p.2 p.1.2) (p : Gr.Rl × Value) (hp : OwnInts base w p.2 p.1.2)
    (ho : w1.ownsRow base 31 2 v' (ps.length + 1) (rlsCells ps ++ rlCells p)) (hg : w.grownBy w1 v.ownBlock) : OwnRls base w1 v' (rs ++ [p.1]) := by
  refine ⟨ps ++ [p], by simp [h1], ?_, fun q hq => ?_⟩
  · rw [List.length_append, rlsCells_append]
    simpa [rlsCells] using ho
  · have hq' : OwnInts base w q.2 q.1.2 := by
      rcases List.mem_append.1 hq with hq | hq
      · exact h3 q hq
      · simp at hq; subst hq; exact hp
    exact hq'.kept hg (row_apart hq' h2 (by decide))

/-- what rules of one's own read as -/
theorem OwnRls.read {base : Nat} {w : World} {v : Value} {rs : List Gr.Rl} (h : OwnRls base w v rs) :
    ∃ ao c, v = .slice ao rs.length c ∧ RlsAt w.heap.size w ao rs ∧ rs.length ≤ c ∧ c ≤ maxLen ∧ (ao = none → rs = [] ∧ c = 0) := by
  obtain ⟨ps, rfl, hown, hr⟩ := h
  have hc := hown
  rcases hown.2 with ⟨rfl, h0⟩ | ⟨g, cap, cur, rfl, hg, hh, hl, hm, _⟩
  · have : ps = [] := List.eq_nil_of_length_eq_zero h0
    subst this
    exact ⟨none, 0, rfl, RlsAt.nil, Nat.le_refl _, Nat.zero_le _, fun _ => ⟨rfl, rfl⟩⟩
  · have hlt := (Array.getElem?_eq_some_iff.1 hh).1
    refine ⟨_, _, by rw [List.length_map], fun i hi => ?_, by rw [List.length_map]; exact hl, hm, fun h => by cases h⟩
    have hi' : i < ps.length := by simpa using hi
    obtain ⟨ro, rc, hv, ht, h4, h5, _⟩ := OwnInts.read (hr ps[i] (List.getElem_mem hi'))
    obtain ⟨k0, k1⟩ := rlsCells_get ps i hi'
    have e : (ps.map (·.1))[i] = ps[i].1 := by simp
    refine ⟨g, 0, ro, rc, rfl, hlt, hlt, ?_, ?_, ?_, ?_, h5⟩
    · have := hc.cells (g := g) rfl _ _ k0
      rw [addr_zero_add] at this; rw [e, Nat.zero_add]; exact this
    · have := hc.cells (g := g) rfl _ _ k1
      rw [addr_zero_add] at this; rw [e, Nat.zero_add, ← hv]; exact this
    · rw [e]; exact ht
    · rw [e]; exact h4

/-- where a grammar's lists lie -/
structure GA where
  ta : Option Addr
  tc : Nat
  na : Option Addr
  nc : Nat
  ra : Option Addr
  rc : Nat

/-- a grammar's cells, as a value -/
def gmCells (g : Gr.Gm) (A : GA) : Array Value := #[.slice A.ta g.terms.length A.tc, .slice A.na g.names.length A.nc, .slice A.ra g.rules.length A.rc]

structure GmAt (N : Nat) (w : World) (g : Gr.Gm) (A : GA) : Prop where
  terms : StrsAt N w A.ta g.terms
  names : StrsAt N w A.na g.names
  rules : RlsAt N w A.ra g.rules
  tcap : g.terms.length ≤ A.tc ∧ A.tc ≤ maxLen
  ncap : g.names.length ≤ A.nc ∧ A.nc ≤ maxLen
  rcap : g.rules.length ≤ A.rc ∧ A.rc ≤ maxLen
  ttext : ∀ s ∈ g.terms, s.size ≤ maxLen
  ntext : ∀ s ∈ g.names, s.size ≤ maxLen

theorem GmAt.later {N : Nat} {w w' : World} {g : Gr.Gm} {A : GA} (h : GmAt N w g A) (hb : Below N w w') : GmAt N w' g A :=
  ⟨h.terms.later hb, h.names.later hb, h.rules.later hb, h.tcap, h.ncap, h.rcap, h.ttext, h.ntext⟩
theorem GmAt.mono {N N' : Nat} {w : World} {g : Gr.Gm} {A : GA} (h : GmAt N w g A) (hN : N ≤ N') : GmAt N' w g A :=
  ⟨h.terms.mono hN, h.names.mono hN, h.rules.mono hN, h.tcap, h.ncap, h.rcap, h.ttext, h.ntext⟩
theorem GmAt.size {N : Nat} {w : World} {g : Gr.Gm} {A : GA} (h : GmAt N w g A) : GmAt w.heap.size w g A :=
  ⟨h.terms.size, h.names.size, h.rules.size, h.tcap, h.ncap, h.rcap, h.ttext, h.ntext⟩
/-- a grammar, in a later world -/
theorem GmAt.next {w w' : World} {g : Gr.Gm} {A : GA} (h : GmAt w.heap.size w g A) (hb : Below w.heap.size w w') : GmAt w'.heap.size w' g A := (h.later hb).size
end Go.Proofs.Ytdocbgfpnaiijaa
