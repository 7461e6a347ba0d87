/-
  Layer 2 (read): tokens and alternatives in memory.
-/
import Derived.Test.YtimjopaedfefmaaLexTokens
import Derived.Test.YtimjopaedfefmaaReadMath
import Derived.Deep.AppendLies
import Derived.Deep.QuietTactic
import Derived.BigQuiet
import Derived.WalkSmall
import Derived.Deep.RegionLaw
namespace Go.Proofs.Ytimjopaedfefmaa
open Go.RowKit

def tkCells (t : Rd.Tk) : List Value := [.int .i64 t.kind, .string t.text, .int .i64 t.pos]
def tksCells (ts : List Rd.Tk) : List Value := ts.flatMap tkCells
/-- a token as a value -/
def tkVal (t : Rd.Tk) : Value := .agg #[.int .i64 t.kind, .string t.text, .int .i64 t.pos]

theorem tksCells_snoc (acc : List Rd.Tk) (t : Rd.Tk) : tksCells (acc ++ [t]) = tksCells acc ++ tkCells t := by simp [tksCells]
theorem tksCells_append (a b : List Rd.Tk) : tksCells (a ++ b) = tksCells a ++ tksCells b := by simp [tksCells]
theorem tksCells_length (ts : List Rd.Tk) : (tksCells ts).length = ts.length * 3 := by
  induction ts with
  | nil => rfl
  | cons t r ih => rw [show tksCells (t :: r) = tkCells t ++ tksCells r from rfl, List.length_append, ih, List.length_cons, show (tkCells t).length = 3 from rfl]; omega
theorem tksCells_one (ts : List Rd.Tk) : ∀ u ∈ tksCells ts, u.oneCell' = true := by
  intro u hu
  obtain ⟨t, _, h⟩ := List.mem_flatMap.1 hu
  simp only [tkCells, List.mem_cons, List.not_mem_nil, or_false] at h
  rcases h with rfl | rfl | rfl <;> rfl

theorem tksCells_get (ts : List Rd.Tk) (i : Nat) (h : i < ts.length) :
    (tksCells ts)[i * 3]? = some (.int .i64 ts[i].kind) ∧ (tksCells ts)[i * 3 + 1]? = some (.string ts[i].text) ∧ (tksCells ts)[i * 3 + 2]? = some (.int .i64 ts[i].pos) := by
  induction ts generalizing i with
  | nil => simp at h
  | cons t r ih =>
    have e : tksCells (t :: r) = .int .i64 t.kind :: .string t.text :: .int .i64 t.pos :: tksCells r := rfl
    cases i with
    | zero => rw [e]; exact ⟨rfl, rfl, rfl⟩
    | succ i =>
      have := ih i (by simpa using h)
      rw [e, show (i + 1) * 3 = i * 3 + 1 + 1 + 1 from by omega, show i * 3 + 1 + 1 + 1 + 1 = i * 3 + 1 + 1 + 1 + 1 from rfl, show i * 3 + 1 + 1 + 1 + 2 = i * 3 + 2 + 1 + 1 + 1 from by omega]
      simp only [List.getElem?_cons_succ, List.getElem_cons_succ]
      exact this

theorem addr_zero_add (g j : Nat) : (⟨g, 0, none⟩ : Addr).add j = ⟨g, j, none⟩ := by unfold Addr.add; split <;> simp_all
theorem addr_off_add (g o j : Nat) : (⟨g, o, none⟩ : Addr).add j = ⟨g, o + j, none⟩ := by unfold Addr.add; split <;> simp_all

/-- tokens that lie in memory, below a block, whoever's -/
def TksAt (N : Nat) (w : World) (ao : Option Addr) (ts : List Rd.Tk) : Prop :=
  ∀ i (_ : i < ts.length), ∃ b o, ao = some ⟨b, o, none⟩ ∧ b < N ∧ b < w.heap.size ∧
    w.cell? ⟨b, o + i * 3, none⟩ = some (.int .i64 ts[i].kind) ∧ w.cell? ⟨b, o + i * 3 + 1, none⟩ = some (.string ts[i].text) ∧ w.cell? ⟨b, o + i * 3 + 2, none⟩ = some (.int .i64 ts[i].pos)

theorem TksAt.later {N : Nat} {w w' : World} {ao : Option Addr} {ts : List Rd.Tk} (h : TksAt N w ao ts) (hb : Below N w w') : TksAt N w' ao ts := by
  intro i hi
  obtain ⟨b, o, rfl, h1, h2, c0, c1, c2⟩ := h i hi
  exact ⟨b, o, rfl, h1, Nat.lt_of_lt_of_le h2 hb.size, (hb.cell h1).trans c0, (hb.cell h1).trans c1, (hb.cell h1).trans c2⟩
theorem TksAt.mono {N N' : Nat} {w : World} {ao : Option Addr} {ts : List Rd.Tk} (h : TksAt N w ao ts) (hN : N ≤ N') : TksAt N' w ao ts := by
  intro i hi
  obtain ⟨b, o, rfl, h1, h2⟩ := h i hi
  exact ⟨b, o, rfl, by omega, h2⟩
theorem TksAt.size {N : Nat} {w : World} {ao : Option Addr} {ts : List Rd.Tk} (h : TksAt N w ao ts) : TksAt w.heap.size w ao ts := by
  intro i hi
  obtain ⟨b, o, rfl, h1, h2, h3⟩ := h i hi
  exact ⟨b, o, rfl, h2, h2, h3⟩
theorem TksAt.nil {N : Nat} {w : World} {ao : Option Addr} : TksAt N w ao [] := fun i hi => by simp at hi

/-- a part of tokens -/
theorem TksAt.part {N : Nat} {w : World} {b o : Nat} {ts : List Rd.Tk} (h : TksAt N w (some ⟨b, o, none⟩) ts) (lo hi : Nat) : TksAt N w (some ⟨b, o + lo * 3, none⟩) ((ts.take hi).drop lo) := by
  intro i hi'
  rw [List.length_drop, List.length_take] at hi'
  obtain ⟨b', o', he, h1, h2, c0, c1, c2⟩ := h (lo + i) (by omega)
  cases he
  have e : o + lo * 3 + i * 3 = o + (lo + i) * 3 := by omega
  have g : ((ts.take hi).drop lo)[i]'(by rw [List.length_drop, List.length_take]; omega) = ts[lo + i]'(by omega) := by
    rw [List.getElem_drop, List.getElem_take]
  refine ⟨b, o + lo * 3, rfl, h1, h2, ?_, ?_, ?_⟩
  · rw [e, g]; exact c0
  · rw [e, g]; exact c1
  · rw [e, g]; exact c2

/-- a row of one's own -/
theorem tks_read {w : World} {base : Nat} {v : Value} {ts : List Rd.Tk} (h : w.ownsRow base 37 3 v ts.length (tksCells ts)) :
    ∃ ao c, v = .slice ao ts.length c ∧ TksAt w.heap.size w ao ts ∧ ts.length ≤ c ∧ c ≤ maxLen ∧ (ao = none → ts = [] ∧ c = 0) := by
  have hc := h
  rcases h.2 with ⟨rfl, h0⟩ | ⟨g, cap, cur, rfl, hg, hh, hl, hm, _⟩
  · have : ts = [] := List.eq_nil_of_length_eq_zero h0
    subst this
    exact ⟨none, 0, rfl, TksAt.nil, Nat.le_refl _, Nat.zero_le _, fun _ => ⟨rfl, rfl⟩⟩
  · have hlt := (Array.getElem?_eq_some_iff.1 hh).1
    refine ⟨_, _, rfl, fun i hi => ⟨g, 0, rfl, hlt, hlt, ?_, ?_, ?_⟩, hl, hm, fun h => by cases h⟩
    · have := hc.cells (g := g) rfl _ _ (tksCells_get ts i hi).1
      rw [addr_zero_add] at this; simpa using this
    · have := hc.cells (g := g) rfl _ _ (tksCells_get ts i hi).2.1
      rw [addr_zero_add] at this; simpa using this
    · have := hc.cells (g := g) rfl _ _ (tksCells_get ts i hi).2.2
      rw [addr_zero_add] at this; simpa using this

/-- the cells that a slice of tokens reads, for a copy of it -/
theorem TksAt.cells {N : Nat} {w : World} {a : Addr} {ts : List Rd.Tk} (h : TksAt N w (some a) ts) : ∀ j u, (tksCells ts)[j]? = some u → w.cell? (a.add j) = some u := by
  intro j u hj
  have hl := (List.getElem?_eq_some_iff.1 hj).1
  rw [tksCells_length] at hl
  obtain ⟨b, o, he, _, _, c0, c1, c2⟩ := h (j / 3) (by omega)
  cases he
  obtain ⟨g0, g1, g2⟩ := tksCells_get ts (j / 3) (by omega)
  rw [addr_off_add]
  obtain ⟨q, r, hr, rfl⟩ : ∃ q r, r < 3 ∧ j = q * 3 + r := ⟨j / 3, j % 3, by omega, by omega⟩
  have e : (q * 3 + r) / 3 = q := by omega
  simp only [e] at c0 c1 c2 g0 g1 g2
  match r, hr with
  | 0, _ => rw [Nat.add_zero, g0] at hj; cases hj; exact c0
  | 1, _ => rw [g1] at hj; cases hj; exact c1
  | 2, _ => rw [g2] at hj; cases hj; exact c2

/-- an alternative's cells: its left side, its right side's value -/
def alCells (p : Rd.Al × Value) : List Value := tkCells p.1.1 ++ [p.2]
def alsCells (ps : List (Rd.Al × Value)) : List Value := ps.flatMap alCells

theorem alsCells_append (a b : List (Rd.Al × Value)) : alsCells (a ++ b) = alsCells a ++ alsCells b := by simp [alsCells]
theorem alsCells_length (ps : List (Rd.Al × Value)) : (alsCells ps).length = ps.length * 4 := by
  induction ps with
  | nil => rfl
  | cons t r ih => rw [show alsCells (t :: r) = alCells t ++ alsCells r from rfl, List.length_append, ih, List.length_cons, show (alCells t).length = 4 from rfl]; omega
theorem alsCells_get (ps : List (Rd.Al × Value)) (i : Nat) (h : i < ps.length) :
    (alsCells ps)[i * 4]? = some (.int .i64 ps[i].1.1.kind) ∧ (alsCells ps)[i * 4 + 1]? = some (.string ps[i].1.1.text) ∧ (alsCells ps)[i * 4 + 2]? = some (.int .i64 ps[i].1.1.pos) ∧ (alsCells ps)[i * 4 + 3]? = some ps[i].2 := by
  induction ps generalizing i with
  | nil => simp at h
  | cons t r ih =>
    have e : alsCells (t :: r) = .int .i64 t.1.1.kind :: .string t.1.1.text :: .int .i64 t.1.1.pos :: t.2 :: alsCells r := rfl
    cases i with
    | zero => rw [e]; exact ⟨rfl, rfl, rfl, rfl⟩
    | succ i =>
      have := ih i (by simpa using h)
      rw [e, show (i + 1) * 4 = i * 4 + 1 + 1 + 1 + 1 from by omega, show i * 4 + 1 + 1 + 1 + 1 + 2 = i * 4 + 2 + 1 + 1 + 1 + 1 from by omega, show i * 4 + 1 + 1 + 1 + 1 + 3 = i * 4 + 3 + 1 + 1 + 1 + 1 from by omega]
      simp only [List.getElem?_cons_succ, List.getElem_cons_succ]
      exact this

/-- alternatives that lie in rows of one's own, from a block on -/
def AlsAt (base : Nat) (w : World) (v : Value) (xs : List Rd.Al) : Prop :=
  ∃ ps : List (Rd.Al × Value), ps.map (·.1) = xs ∧ w.ownsRow base 80 4 v ps.length (alsCells ps) ∧ ∀ p ∈ ps, w.ownsRow base 37 3 p.2 p.1.2.length (tksCells p.1.2)

theorem AlsAt.nil (base : Nat) (w : World) : AlsAt base w (.slice none 0 0) [] := ⟨[], rfl, World.ownsRow_nil _ _ _ _, fun p hp => by simp at hp⟩
theorem AlsAt.below {base : Nat} {w w' : World} {v : Value} {xs : List Rd.Al} (h : AlsAt base w v xs) (hb : Below w.heap.size w w') : AlsAt base w' v xs := by
  obtain ⟨ps, h1, h2, h3⟩ := h
  exact ⟨ps, h1, ownsRow_below h2 hb, fun p hp => ownsRow_below (h3 p hp) hb⟩
theorem AlsAt.from {base base' : Nat} {w : World} {v : Value} {xs : List Rd.Al} (h : AlsAt base w v xs) (hb : base' ≤ base) : AlsAt base' w v xs := by
  obtain ⟨ps, h1, h2, h3⟩ := h
  exact ⟨ps, h1, ownsRow_from h2 hb, fun p hp => ownsRow_from (h3 p hp) hb⟩
theorem AlsAt.setCell {base : Nat} {w : World} {v : Value} {xs : List Rd.Al} (h : AlsAt base w v xs) {a : Addr} (ha : a.block < base) (u : Value) : AlsAt base (w.setCell a u) v xs := by
  obtain ⟨ps, h1, h2, h3⟩ := h
  exact ⟨ps, h1, ownsRow_setCell_below h2 ha u, fun p hp => ownsRow_setCell_below (h3 p hp) ha u⟩
theorem AlsAt.alloc {base : Nat} {w : World} {v : Value} {xs : List Rd.Al} (h : AlsAt base w v xs) (o : Obj) : AlsAt base (w.alloc o) v xs := h.below ((Below.refl _ w).alloc (Nat.le_refl _) o)
theorem AlsAt.drew {base : Nat} {w : World} {v : Value} {xs : List Rd.Al} (h : AlsAt base w v xs) : AlsAt base w.drew v xs := h

theorem row_other {w : World} {base base' : Nat} {v v' : Value} {n n' : Nat} {xs xs' : List Value} (h : w.ownsRow base 37 3 v n xs) (h' : w.ownsRow base' 80 4 v' n' xs') : v.ownBlock = none ∨ v.ownBlock ≠ v'.ownBlock := by
  rcases h.2 with ⟨rfl, _⟩ | ⟨g, cap, cur, rfl, _, hg, _⟩
  · exact .inl rfl
  · refine .inr fun e => ?_
    rcases h'.2 with ⟨rfl, _⟩ | ⟨g', cap', cur', rfl, _, hg', _⟩
    · cases e
    · have : g = g' := by simpa [Value.ownBlock] using e
      subst this
      rw [hg] at hg'
      cases hg'

/-- one alternative more -/
theorem AlsAt.push {base : Nat} {w w1 : World} {v v' : Value} {xs : List Rd.Al} {ps : List (Rd.Al × Value)} (h1 : ps.map (·.1) = xs) (h2 : w.ownsRow base 80 4 v ps.length (alsCells ps))
    (h3 : ∀ p ∈ ps, w.ownsRow base 37 3 p.2 p.1.2.length (tksCells p.1.2)) (p : Rd.Al × Value) (hp : w.ownsRow base 37 3 p.2 p.1.2.length (tksCells p.1.2))
    (ho : w1.ownsRow base 80 4 v' (ps.length + 1) (alsCells ps ++ alCells p)) (hg : w.grownBy w1 v.ownBlock) : AlsAt base w1 v' (xs ++ [p.1]) := by
  refine ⟨ps ++ [p], by simp [h1], ?_, fun q hq => ?_⟩
  · rw [List.length_append, alsCells_append]
    simpa [alsCells] using ho
  · have hq' : w.ownsRow base 37 3 q.2 q.1.2.length (tksCells q.1.2) := by
      rcases List.mem_append.1 hq with hq | hq
      · exact h3 q hq
      · simp at hq; subst hq; exact hp
    exact hq'.kept hg (row_other hq' h2)

/-- what alternatives in memory read as -/
theorem AlsAt.read {base : Nat} {w : World} {v : Value} {xs : List Rd.Al} (h : AlsAt base w v xs) :
    ∃ ao c, v = .slice ao xs.length c ∧ (ao = none → xs = [] ∧ c = 0) ∧ ∀ i (hi : i < xs.length), ∃ g ro rc, ao = some ⟨g, 0, none⟩ ∧ base ≤ g ∧ g < w.heap.size ∧
      w.cell? ⟨g, i * 4, none⟩ = some (.int .i64 xs[i].1.kind) ∧ w.cell? ⟨g, i * 4 + 1, none⟩ = some (.string xs[i].1.text) ∧ w.cell? ⟨g, i * 4 + 2, none⟩ = some (.int .i64 xs[i].1.pos) ∧
      w.cell? ⟨g, i * 4 + 3, none⟩ = some (.slice ro xs[i].2.length rc) ∧ TksAt w.heap.size w ro xs[i].2 := by
  obtain ⟨ps, rfl, hown, hr⟩ := h
  have hc := hown
  rcases hown.2 with ⟨rfl, h0⟩ | ⟨g, cap, cur, rfl, hg, hh, _⟩
  · have : ps = [] := List.eq_nil_of_length_eq_zero h0
    subst this
    exact ⟨none, 0, rfl, fun _ => ⟨rfl, rfl⟩, fun i hi => by simp at hi⟩
  · refine ⟨_, _, by rw [List.length_map], (fun h => by cases h), fun i hi => ?_⟩
    have hi' : i < ps.length := by simpa using hi
    obtain ⟨ro, rc, hv, ht, _⟩ := tks_read (hr ps[i] (List.getElem_mem hi'))
    obtain ⟨k0, k1, k2, k3⟩ := alsCells_get ps i hi'
    have e : (ps.map (·.1))[i] = ps[i].1 := by simp
    refine ⟨g, ro, rc, rfl, hg, (Array.getElem?_eq_some_iff.1 hh).1, ?_, ?_, ?_, ?_, ?_⟩
    · have := hc.cells (g := g) rfl _ _ k0
      rw [addr_zero_add] at this; rw [e]; exact this
    · have := hc.cells (g := g) rfl _ _ k1
      rw [addr_zero_add] at this; rw [e]; exact this
    · have := hc.cells (g := g) rfl _ _ k2
      rw [addr_zero_add] at this; rw [e]; exact this
    · have := hc.cells (g := g) rfl _ _ k3
      rw [addr_zero_add] at this; rw [e, ← hv]; exact this
    · rw [e]; exact ht

theorem later_alloc {w wx : World} {o : Obj} {a : Addr} {v : Value} (hb : Below (w.alloc o).heap.size (w.alloc o) wx) (h : w.cell? a = some v) : wx.cell? a = some v :=
  cell_later hb (cell_later ((Below.refl _ w).alloc (Nat.le_refl _) o) h)
end Go.Proofs.Ytimjopaedfefmaa
