/-
  Layer 2 (read): tokens and alternatives in memory.
  Layer 2 (read): the small functions: throw, isSymbol, cloneOf, whether a kind is one of some.
  Layer 2 (read): the reader in memory; take: the next token, if it is of one of some kinds.
  Layer 2 (read): altOf: an alternative of one's own.
-/
import Derived.Test.YtdocbgfpnaiijaaLexTokens
import Derived.Test.YtdocbgfpnaiijaaReadMath
import Derived.Deep.AppendLies
import Derived.Deep.QuietTactic
import Derived.BigQuiet
import Derived.WalkSmall
import Derived.Deep.RegionLaw
namespace Go.Proofs.Ytdocbgfpnaiijaa
open Go.RowKit

def tkCells (t : Rd.Tk) : List Value := [.int .i64 t.kind, .string t.text, .int .i64 t.pos]
def tksCells (ts : List Rd.Tk) : List Value := ts.flatMap tkCells
/-- a token as a value -/
def tkVal (t : Rd.Tk) : Value := .agg #[.int .i64 t.kind, .string t.text, .int .i64 t.pos]

theorem tksCells_snoc (acc : List Rd.Tk) (t : Rd.Tk) : tksCells (acc ++ [t]) = tksCells acc ++ tkCells t := by simp [tksCells]
theorem tksCells_append (a b : List Rd.Tk) : tksCells (a ++ b) = tksCells a ++ tksCells b := by simp [tksCells]
theorem tksCells_length (ts : List Rd.Tk) : (tksCells ts).length = ts.length * 3 := by
  induction ts with
  | nil => rfl
  | cons t r ih => rw [show tksCells (t :: r) = tkCells t ++ tksCells r from rfl, List.length_append, ih, List.length_cons, show (tkCells t).length = 3 from rfl]; omega
theorem tksCells_one (ts : List Rd.Tk) : ∀ u ∈ tksCells ts, u.oneCell' = true := by
  intro u hu
  obtain ⟨t, _, h⟩ := List.mem_flatMap.1 hu
  simp only [tkCells, List.mem_cons, List.not_mem_nil, or_false] at h
  rcases h with rfl | rfl | rfl <;> rfl

theorem tksCells_get (ts : List Rd.Tk) (i : Nat) (h : i < ts.length) :
    (tksCells ts)[i * 3]? = some (.int .i64 ts[i].kind) ∧ (tksCells ts)[i * 3 + 1]? = some (.string ts[i].text) ∧ (tksCells ts)[i * 3 + 2]? = some (.int .i64 ts[i].pos) := by
  induction ts generalizing i with
  | nil => simp at h
  | cons t r ih =>
    have e : tksCells (t :: r) = .int .i64 t.kind :: .string t.text :: .int .i64 t.pos :: tksCells r := rfl
    cases i with
    | zero => rw [e]; exact ⟨rfl, rfl, rfl⟩
    | succ i =>
      have := ih i (by simpa using h)
      rw [e, show (i + 1) * 3 = i * 3 + 1 + 1 + 1 from by omega, show i * 3 + 1 + 1 + 1 + 1 = i * 3 + 1 + 1 + 1 + 1 from rfl, show i * 3 + 1 + 1 + 1 + 2 = i * 3 + 2 + 1 + 1 + 1 from by omega]
      simp only [List.getElem?_cons_succ, List.getElem_cons_succ]
      exact this

theorem addr_zero_add (g j : Nat) : (⟨g, 0, none⟩ : Addr).add j = ⟨g, j, none⟩ := by unfold Addr.add; split <;> simp_all
theorem addr_off_add (g o j : Nat) : (⟨g, o, none⟩ : Addr).add j = ⟨g, o + j, none⟩ := by unfold Addr.add; split <;> simp_all

/-- tokens that lie in memory, below a block, whoever's -/
def TksAt (N : Nat) (w : World) (ao : Option Addr) (ts : List Rd.Tk) : Prop :=
  ∀ i (_ : i < ts.length), ∃ b o, ao = some ⟨b, o, none⟩ ∧ b < N ∧ b < w.heap.size ∧
    w.cell? ⟨b, o + i * 3, none⟩ = some (.int .i64 ts[i].kind) ∧ w.cell? ⟨b, o + i * 3 + 1, none⟩ = some (.string ts[i].text) ∧ w.cell? ⟨b, o + i * 3 + 2, none⟩ = some (.int .i64 ts[i].pos)

theorem TksAt.later {N : Nat} {w w' : World} {ao : Option Addr} {ts : List Rd.Tk} (h : TksAt N w ao ts) (hb : Below N w w') : TksAt N w' ao ts := by
  intro i hi
  obtain ⟨b, o, rfl, h1, h2, c0, c1, c2⟩ := h i hi
  exact ⟨b, o, rfl, h1, Nat.lt_of_lt_of_le h2 hb.size, (hb.cell h1).trans c0, (hb.cell h1).trans c1, (hb.cell h1).trans c2⟩
theorem TksAt.mono {N N' : Nat} {w : World} {ao : Option Addr} {ts : List Rd.Tk} (h : TksAt N w ao ts) (hN : N ≤ N') : TksAt N' w ao ts := by
  intro i hi
  obtain ⟨b, o, rfl, h1, h2⟩ := h i hi
  exact ⟨b, o, rfl, by omega, h2⟩
theorem TksAt.size {N : Nat} {w : World} {ao : Option Addr} {ts : List Rd.Tk} (h : TksAt N w ao ts) : TksAt w.heap.size w ao ts := by
  intro i hi
  obtain ⟨b, o, rfl, h1, h2, h3⟩ := h i hi
  exact ⟨b, o, rfl, h2, h2, h3⟩
theorem TksAt.nil {N : Nat} {w : World} {ao : Option Addr} : TksAt N w ao [] := fun i hi => by simp at hi

/-- a part of tokens -/
theorem TksAt.part {N : Nat} {w : World} {b o : Nat} {ts : List Rd.Tk} (h : TksAt N w (some ⟨b, o, none⟩) ts) (lo hi : Nat) : TksAt N w (some ⟨b, o + lo * 3, none⟩) ((ts.take hi).drop lo) := by
  intro i hi'
  rw [List.length_drop, List.length_take] at hi'
  obtain ⟨b', o', he, h1, h2, c0, c1, c2⟩ := h (lo + i) (by omega)
  cases he
  have e : o + lo * 3 + i * 3 = o + (lo + i) * 3 := by omega
  have g : ((ts.take hi).drop lo)[i]'(by rw [List.length_drop, List.length_take]; omega) = ts[lo + i]'(by omega) := by
    rw [List.getElem_drop, List.getElem_take]
  refine ⟨b, o + lo * 3, rfl, h1, h2, ?_, ?_, ?_⟩
  · rw [e, g]; exact c0
  · rw [e, g]; exact c1
  · rw [e, g]; exact c2

/-- a row of one's own -/
theorem tks_read {w : World} {base : Nat} {v : Value} {ts : List Rd.Tk} (h : w.ownsRow base 101 3 v ts.length (tksCells ts)) :
    ∃ ao c, v = .slice ao ts.length c ∧ TksAt w.heap.size w ao ts ∧ ts.length ≤ c ∧ c ≤ maxLen ∧ (ao = none → ts = [] ∧ c = 0) := by
  have hc := h
  rcases h.2 with ⟨rfl, h0⟩ | ⟨g, cap, cur, rfl, hg, hh, hl, hm, _⟩
  · have : ts = [] := List.eq_nil_of_length_eq_zero h0
    subst this
    exact ⟨none, 0, rfl, TksAt.nil, Nat.le_refl _, Nat.zero_le _, fun _ => ⟨rfl, rfl⟩⟩
  · have hlt := (Array.getElem?_eq_some_iff.1 hh).1
    refine ⟨_, _, rfl, fun i hi => ⟨g, 0, rfl, hlt, hlt, ?_, ?_, ?_⟩, hl, hm, fun h => by cases h⟩
    · have := hc.cells (g := g) rfl _ _ (tksCells_get ts i hi).1
      rw [addr_zero_add] at this; simpa using this
    · have := hc.cells (g := g) rfl _ _ (tksCells_get ts i hi).2.1
      rw [addr_zero_add] at this; simpa using this
    · have := hc.cells (g := g) rfl _ _ (tksCells_get ts i hi).2.2
      rw [addr_zero_add] at this; simpa using this

/-- the cells that a slice of tokens reads, for a copy of it -/
theorem TksAt.cells {N : Nat} {w : World} {a : Addr} {ts : List Rd.Tk} (h : TksAt N w (some a) ts) : ∀ j u, (tksCells ts)[j]? = some u → w.cell? (a.add j) = some u := by
  intro j u hj
  have hl := (List.getElem?_eq_some_iff.1 hj).1
  rw [tksCells_length] at hl
  obtain ⟨b, o, he, _, _, c0, c1, c2⟩ := h (j / 3) (by omega)
  cases he
  obtain ⟨g0, g1, g2⟩ := tksCells_get ts (j / 3) (by omega)
  rw [addr_off_add]
  obtain ⟨q, r, hr, rfl⟩ : ∃ q r, r < 3 ∧ j = q * 3 + r := ⟨j / 3, j % 3, by omega, by omega⟩
  have e : (q * 3 + r) / 3 = q := by omega
  simp only [e] at c0 c1 c2 g0 g1 g2
  match r, hr with
  | 0, _ => rw [Nat.add_zero, g0] at hj; cases hj; exact c0
  | 1, _ => rw [g1] at hj; cases hj; exact c1
  | 2, _ => rw [g2] at hj; cases hj; exact c2

/-- an alternative's cells: its left side, its right side's value -/
def alCells (p : Rd.Al × Value) : List Value := tkCells p.1.1 ++ [p.2]
def alsCells (ps : List (Rd.Al × Value)) : List Value := ps.flatMap alCells

theorem alsCells_append (a b : List (Rd.Al × Value)) : alsCells (a ++ b) = alsCells a ++ alsCells b := by simp [alsCells]
theorem alsCells_length (ps : List (Rd.Al × Value)) : (alsCells ps).length = ps.length * 4 := by
  induction ps with
  | nil => rfl
  | cons t r ih => rw [show alsCells (t :: r) = alCells t ++ alsCells r from rfl, List.length_append, ih, List.length_cons, show (alCells t).length = 4 from rfl]; omega
theorem alsCells_get (ps : List (Rd.Al × Value)) (i : Nat) (h : i < ps.length) :
    (alsCells ps)[i * 4]? = some (.int .i64 ps[i].1.1.kind) ∧ (alsCells ps)[i * 4 + 1]? = some (.string ps[i].1.1.text) ∧ (alsCells ps)[i * 4 + 2]? = some (.int .i64 ps[i].1.1.pos) ∧ (alsCells ps)[i * 4 + 3]? = some ps[i].2 := by
  induction ps generalizing i with
  | nil => simp at h
  | cons t r ih =>
    have e : alsCells (t :: r) = .int .i64 t.1.1.kind :: .string t.1.1.text :: .int .i64 t.1.1.pos :: t.2 :: alsCells r := rfl
    cases i with
    | zero => rw [e]; exact ⟨rfl, rfl, rfl, rfl⟩
    | succ i =>
      have := ih i (by simpa using h)
      rw [e, show (i + 1) * 4 = i * 4 + 1 + 1 + 1 + 1 from by omega, show i * 4 + 1 + 1 + 1 + 1 + 2 = i * 4 + 2 + 1 + 1 + 1 + 1 from by omega, show i * 4 + 1 + 1 + 1 + 1 + 3 = i * 4 + 3 + 1 + 1 + 1 + 1 from by omega]
      simp only [List.getElem?_cons_succ, List.getElem_cons_succ]
      exact this

/-- alternatives that lie in rows of one's own, from a block on -/
def AlsAt (base : Nat) (w : World) (v : Value) (xs : List Rd.Al) : Prop :=
  ∃ ps : List (Rd.Al × Value), ps.map (·.1) = xs ∧ w.ownsRow base 104 4 v ps.length (alsCells ps) ∧ ∀ p ∈ ps, w.ownsRow base 101 3 p.2 p.1.2.length (tksCells p.1.2)

theorem AlsAt.nil (base : Nat) (w : World) : AlsAt base w (.slice none 0 0) [] := ⟨[], rfl, World.ownsRow_nil _ _ _ _, fun p hp => by simp at hp⟩
theorem AlsAt.below {base : Nat} {w w' : World} {v : Value} {xs : List Rd.Al} (h : AlsAt base w v xs) (hb : Below w.heap.size w w') : AlsAt base w' v xs := by
  obtain ⟨ps, h1, h2, h3⟩ := h
  exact ⟨ps, h1, ownsRow_below h2 hb, fun p hp => ownsRow_below (h3 p hp) hb⟩
theorem AlsAt.from {base base' : Nat} {w : World} {v : Value} {xs : List Rd.Al} (h : AlsAt base w v xs) (hb : base' ≤ base) : AlsAt base' w v xs := by
  obtain ⟨ps, h1, h2, h3⟩ := h
  exact ⟨ps, h1, ownsRow_from h2 hb, fun p hp => ownsRow_from (h3 p hp) hb⟩
theorem AlsAt.setCell {base : Nat} {w : World} {v : Value} {xs : List Rd.Al} (h : AlsAt base w v xs) {a : Addr} (ha : a.block < base) (u : Value) : AlsAt base (w.setCell a u) v xs := by
  obtain ⟨ps, h1, h2, h3⟩ := h
  exact ⟨ps, h1, ownsRow_setCell_below h2 ha u, fun p hp => ownsRow_setCell_below (h3 p hp) ha u⟩
theorem AlsAt.alloc {base : Nat} {w : World} {v : Value} {xs : List Rd.Al} (h : AlsAt base w v xs) (o : Obj) : AlsAt base (w.alloc o) v xs := h.below ((Below.refl _ w).alloc (Nat.le_refl _) o)
theorem AlsAt.drew {base : Nat} {w : World} {v : Value} {xs : List Rd.Al} (h : AlsAt base w v xs) : AlsAt base w.drew v xs := h

theorem row_other {w : World} {base base' : Nat} {v v' : Value} {n n' : Nat} {xs xs' : List Value} (h : w.ownsRow base 101 3 v n xs) (h' : w.ownsRow base' 104 4 v' n' xs') : v.ownBlock = none ∨ v.ownBlock ≠ v'.ownBlock := by
  rcases h.2 with ⟨rfl, _⟩ | ⟨g, cap, cur, rfl, _, hg, _⟩
  · exact .inl rfl
  · refine .inr fun e => ?_
    rcases h'.2 with ⟨rfl, _⟩ | ⟨g', cap', cur', rfl, _, hg', _⟩
    · cases e
    · have : g = g' := by simpa [Value.ownBlock] using e
      subst this
      rw [hg] at hg'
      cases hg'

/-- one alternative more -/
theorem AlsAt.push {base : Nat} {w w1 : World} {v v' : Value} {xs : List Rd.Al} {ps : List (Rd.Al × Value)} (h1 : ps.map (·.1) = xs) (h2 : w.ownsRow base 104 4 v ps.length (alsCells ps))
    (h3 : ∀ p ∈ ps, w.ownsRow base 101 3 p.2 p.1.2.length (tksCells p.1.2)) (p : Rd.Al × Value) (hp : w.ownsRow base 101 3 p.2 p.1.2.length (tksCells p.1.2))
    (ho : w1.ownsRow base 104 4 v' (ps.length + 1) (alsCells ps ++ alCells p)) (hg : w.grownBy w1 v.ownBlock) : AlsAt base w1 v' (xs ++ [p.1]) := by
  refine ⟨ps ++ [p], by simp [h1], ?_, fun q hq => ?_⟩
  · rw [List.length_append, alsCells_append]
    simpa [alsCells] using ho
  · have hq' : w.ownsRow base 101 3 q.2 q.1.2.length (tksCells q.1.2) := by
      rcases List.mem_append.1 hq with hq | hq
      · exact h3 q hq
      · simp at hq; subst hq; exact hp
    exact hq'.kept hg (row_other hq' h2)

/-- what alternatives in memory read as -/
theorem AlsAt.read {base : Nat} {w : World} {v : Value} {xs : List Rd.Al} (h : AlsAt base w v xs) :
    ∃ ao c, v = .slice ao xs.length c ∧ (ao = none → xs = [] ∧ c = 0) ∧ ∀ i (hi : i < xs.length), ∃ g ro rc, ao = some ⟨g, 0, none⟩ ∧ base ≤ g ∧ g < w.heap.size ∧
      w.cell? ⟨g, i * 4, none⟩ = some (.int .i64 xs[i].1.kind) ∧ w.cell? ⟨g, i * 4 + 1, none⟩ = some (.string xs[i].1.text) ∧ w.cell? ⟨g, i * 4 + 2, none⟩ = some (.int .i64 xs[i].1.pos) ∧
      w.cell? ⟨g, i * 4 + 3, none⟩ = some (.slice ro xs[i].2.length rc) ∧ TksAt w.heap.size w ro xs[i].2 := by
  obtain ⟨ps, rfl, hown, hr⟩ := h
  have hc := hown
  rcases hown.2 with ⟨rfl, h0⟩ | ⟨g, cap, cur, rfl, hg, hh, _⟩
  · have : ps = [] := List.eq_nil_of_length_eq_zero h0
    subst this
    exact ⟨none, 0, rfl, fun _ => ⟨rfl, rfl⟩, fun i hi => by simp at hi⟩
  · refine ⟨_, _, by rw [List.length_map], (fun h => by cases h), fun i hi => ?_⟩
    have hi' : i < ps.length := by simpa using hi
    obtain ⟨ro, rc, hv, ht, _⟩ := tks_read (hr ps[i] (List.getElem_mem hi'))
    obtain ⟨k0, k1, k2, k3⟩ := alsCells_get ps i hi'
    have e : (ps.map (·.1))[i] = ps[i].1 := by simp
    refine ⟨g, ro, rc, rfl, hg, (Array.getElem?_eq_some_iff.1 hh).1, ?_, ?_, ?_, ?_, ?_⟩
    · have := hc.cells (g := g) rfl _ _ k0
      rw [addr_zero_add] at this; rw [e]; exact this
    · have := hc.cells (g := g) rfl _ _ k1
      rw [addr_zero_add] at this; rw [e]; exact this
    · have := hc.cells (g := g) rfl _ _ k2
      rw [addr_zero_add] at this; rw [e]; exact this
    · have := hc.cells (g := g) rfl _ _ k3
      rw [addr_zero_add] at this; rw [e, ← hv]; exact this
    · rw [e]; exact ht

theorem later_alloc {w wx : World} {o : Obj} {a : Addr} {v : Value} (hb : Below (w.alloc o).heap.size (w.alloc o) wx) (h : w.cell? a = some v) : wx.cell? a = some v :=
  cell_later hb (cell_later ((Below.refl _ w).alloc (Nat.le_refl _) o) h)
end Go.Proofs.Ytdocbgfpnaiijaa

namespace Go.Proofs.Ytdocbgfpnaiijaa
open Go.RowKit

/-- a fault, thrown -/
def thrown (e : Rd.Er) : Ending := .panicked [{ v := .iface 56 (.agg #[.int .i64 e.1, .int .i64 e.2]), recovered := false }]

set_option maxHeartbeats 400000 in
theorem rthrow_any (n a : Int) (w : World) :
    Calls Try.prog 122 #[.int .i64 n, .int .i64 a] w fun e w' => e = .panicked [{ v := .iface 56 (.agg #[.int .i64 n, .int .i64 a]), recovered := false }] ∧ w' = w := by
  go_enter Try.func122, Try.ntmps122
  go_wp2
  exact ⟨rfl, rfl, rfl⟩

set_option maxHeartbeats 400000 in
theorem isSymbol_any (k : Int) (w : World) :
    Calls Try.prog 123 #[.int .i64 k] w fun e w' => e = .returned (.bool (decide (k = 1 ∨ k = 2))) ∧ w' = w := by
  go_enter Try.func123, Try.ntmps123
  go_wp2
  all_goals go_ret
  all_goals refine ⟨ret_bool ?_, rfl⟩
  all_goals (rw [Bool.eq_iff_iff]; simp <;> omega)

theorem isSymbol_is (b : Bool) (k : Int) (w : World) (h : decide (k = 1 ∨ k = 2) = b) :
    Calls Try.prog 123 #[.int .i64 k] w fun e w' => e = .returned (.bool b) ∧ w' = w := by
  subst h; exact isSymbol_any k w

set_option maxHeartbeats 400000 in
theorem cloneOf_any (t : Rd.Tk) (w : World) (ht : t.text.size ≤ 281474976710656) :
    Calls Try.prog 127 #[tkVal t] w fun e w' => e = .returned (tkVal t) ∧ Below w.heap.size w w' := by
  obtain ⟨k, x, p⟩ := t
  unfold tkVal
  simp only at ht ⊢
  go_enter Try.func127, Try.ntmps127
  go_wp2_with fail
  refine (clone_any _ _ ht).mono ?_
  rintro e w1 ⟨rfl, hb⟩
  have hz : w.heap.size + 1 < w1.heap.size := by have := hb.size; simp at this; omega
  have hb0 : Below w.heap.size w w1 := (((Below.refl _ w).alloc (Nat.le_refl _) _).alloc (by simp) _).trans (hb.mono (by simp; omega))
  have c0 : w1.cell? ⟨w.heap.size, 0, none⟩ = some (.int .i64 k) := (hb.cell (by simp; omega)).trans (by simp [go_sem])
  have c1 : w1.cell? ⟨w.heap.size, 1, none⟩ = some (.string x) := (hb.cell (by simp; omega)).trans (by simp [go_sem])
  have c2 : w1.cell? ⟨w.heap.size, 2, none⟩ = some (.int .i64 p) := (hb.cell (by simp; omega)).trans (by simp [go_sem])
  have f1 : w1.frozen? ⟨w.heap.size, 1, none⟩ = false := (hb.frozen (by simp; omega)).trans (by simp [go_sem])
  have d0 : w1.cell? ⟨w.heap.size + 1, 0, none⟩ = some (.int .i64 0) := (hb.cell (by simp)).trans (by simp [go_sem])
  have d1 : w1.cell? ⟨w.heap.size + 1, 1, none⟩ = some (.string ⟨#[]⟩) := (hb.cell (by simp)).trans (by simp [go_sem])
  have d2 : w1.cell? ⟨w.heap.size + 1, 2, none⟩ = some (.int .i64 0) := (hb.cell (by simp)).trans (by simp [go_sem])
  have g0 : w1.frozen? ⟨w.heap.size + 1, 0, none⟩ = false := (hb.frozen (by simp)).trans (by simp [go_sem])
  have g1 : w1.frozen? ⟨w.heap.size + 1, 1, none⟩ = false := (hb.frozen (by simp)).trans (by simp [go_sem])
  have g2 : w1.frozen? ⟨w.heap.size + 1, 2, none⟩ = false := (hb.frozen (by simp)).trans (by simp [go_sem])
  clear hb
  go_wp2
  refine bodyPost_ret (v := .agg #[.int .i64 k, .string x, .int .i64 p]) (by simp [results, Try.results127, go_sem, d0, d1, d2]) rfl ⟨rfl, ?_⟩
  exact (((hb0.setCell (by exact Nat.le_refl _) _).setCell (by exact Nat.le_succ _) _).setCell (by exact Nat.le_succ _) _).setCell (by exact Nat.le_succ _) _

/-- the place of the first one of numbers that is one, or -1 -/
def idx (k : Int) : List Int → Int
  | [] => -1
  | x :: r => if k = x then 0 else if idx k r = -1 then -1 else 1 + idx k r

theorem idx_has (k : Int) : ∀ ks : List Int, (-1 ≤ idx k ks) ∧ decide (0 ≤ idx k ks) = ks.contains k
  | [] => by simp [idx]
  | x :: r => by
    obtain ⟨h1, h2⟩ := idx_has k r
    rw [idx]
    by_cases e : k = x
    · subst e; simp
    · rw [if_neg e]
      have e2 : (x :: r).contains k = r.contains k := by simp [e]
      rw [e2, ← h2]
      by_cases q : idx k r = -1
      · rw [if_pos q, q]; simp
      · rw [if_neg q]; refine ⟨by omega, ?_⟩; rw [decide_eq_decide]; omega

set_option maxHeartbeats 800000 in
theorem index_any (ks : List Int) (hks : ks.length ≤ 2) (g : Nat) (k : Int) (w : World) (hc : ∀ i (h : i < ks.length), w.cell? ⟨g, i, none⟩ = some (.int .i64 ks[i])) :
    Calls Try.prog 101 #[.slice (some ⟨g, 0, none⟩) ks.length ks.length, .int .i64 k] w fun e w' => e = .returned (.int .i64 (idx k ks)) ∧ w' = w := by
  have HC : Hid _ := hc
  clear hc
  go_enter Try.func101, Try.ntmps101
  go_wp2
  go_loop [8] (fun i => ∃ q : Nat, q ≤ ks.length ∧ i = .int .i64 q ∧ Hid (idx k ks = if idx k (ks.drop q) = -1 then -1 else q + idx k (ks.drop q))) (fun i => ks.length - (intOf i).toNat)
  case atStart => exact ⟨0, Nat.zero_le _, rfl, by show _ = _; rw [List.drop_zero]; split <;> omega⟩
  case round =>
    obtain ⟨q, hq, rfl, hE⟩ := hrel
    by_cases hlt : q < ks.length
    · have HD : Hid (ks.drop q = ks[q] :: ks.drop (q + 1)) := List.drop_eq_getElem_cons hlt
      have c := HC.out q hlt
      have P := hE.out
      rw [HD.out] at P
      generalize ks[q] = x at *
      rw [idx] at P
      by_cases e : k = x
      · rw [if_pos e] at P
        have R : Hid (idx k ks = q) := by show _ = _; rw [P]; simp
        have hk : (k == x) = true := by simp [e]
        clear P HD hE HC
        subst e
        go_wp2
        go_ret
        exact ⟨ret_int R.out.symm, rfl⟩
      · rw [if_neg e] at P
        have hk : (k == x) = false := by simp [e]
        have R : Hid (idx k ks = if idx k (ks.drop (q + 1)) = -1 then -1 else ((q + 1 : Nat) : Int) + idx k (ks.drop (q + 1))) := by
          show _ = _
          have := (idx_has k (ks.drop (q + 1))).1
          rw [P]
          generalize idx k (ks.drop (q + 1)) = y at this ⊢
          by_cases h : y = -1
          · subst h; simp
          · rw [if_neg h, if_neg h, if_neg (by omega)]; omega
        clear P HD hE
        go_wp2
        go_round
        case rel => exact ⟨q + 1, by omega, by go_num, R⟩
        case measure => simp [intOf]; omega
    · have R : Hid (idx k ks = -1) := by show _ = _; rw [hE.out, List.drop_of_length_le (by omega)]; simp [idx]
      clear hE
      go_wp2
      go_ret
      exact ⟨ret_int R.out.symm, rfl⟩

set_option maxHeartbeats 400000 in
theorem contains_is (b : Bool) (ks : List Int) (hks : ks.length ≤ 2) (g : Nat) (k : Int) (w : World) (hc : ∀ i (h : i < ks.length), w.cell? ⟨g, i, none⟩ = some (.int .i64 ks[i])) (hb : ks.contains k = b) :
    Calls Try.prog 80 #[.slice (some ⟨g, 0, none⟩) ks.length ks.length, .int .i64 k] w fun e w' => e = .returned (.bool b) ∧ w' = w := by
  have R : Hid (decide (0 ≤ idx k ks) = b) := ((idx_has k ks).2.trans hb)
  clear hb
  have HC : Hid _ := hc
  clear hc
  go_enter Try.func80, Try.ntmps80
  go_wp2_with (go_at_call 101; refine (index_any ks hks g k _ HC.out).mono ?_; rintro e w' ⟨rfl, rfl⟩)
  go_ret
  exact ⟨ret_bool R.out, rfl⟩
end Go.Proofs.Ytdocbgfpnaiijaa

namespace Go.Proofs.Ytdocbgfpnaiijaa
open Go.RowKit

/-- the reader's block, its tokens, its alternatives -/
structure RS (w : World) (B : Nat) (ao : Option Addr) (c : Nat) (ts : List Rd.Tk) (en : Int) (k : Nat) (xo : Option Addr) (xc : Nat) (acc : List Rd.Al) : Prop where
  blk : w.heap[B]? = some (.cells #[.slice ao ts.length c, .int .i64 en, .int .i64 k, .slice xo acc.length xc] 126 (0, 0))
  toks : TksAt B w ao ts
  own : AlsAt (B + 1) w (.slice xo acc.length xc) acc
  cap : ts.length ≤ c ∧ c ≤ maxLen

theorem cells_four {w : World} {b : Nat} {x y z u : Value} {t : TypeId} (h : w.heap[b]? = some (.cells #[x, y, z, u] t (0, 0))) :
    w.cell? ⟨b, 0, none⟩ = some x ∧ w.cell? ⟨b, 1, none⟩ = some y ∧ w.cell? ⟨b, 2, none⟩ = some z ∧ w.cell? ⟨b, 3, none⟩ = some u ∧
    w.frozen? ⟨b, 0, none⟩ = false ∧ w.frozen? ⟨b, 1, none⟩ = false ∧ w.frozen? ⟨b, 2, none⟩ = false ∧ w.frozen? ⟨b, 3, none⟩ = false := by
  simp [World.cell?, World.frozen?, h]

theorem RS.lt {w : World} {B : Nat} {ao : Option Addr} {c : Nat} {ts : List Rd.Tk} {en : Int} {k : Nat} {xo : Option Addr} {xc : Nat} {acc : List Rd.Al}
    (h : RS w B ao c ts en k xo xc acc) : B < w.heap.size := (Array.getElem?_eq_some_iff.1 h.blk).1

theorem RS.below {w w' : World} {B : Nat} {ao : Option Addr} {c : Nat} {ts : List Rd.Tk} {en : Int} {k : Nat} {xo : Option Addr} {xc : Nat} {acc : List Rd.Al}
    (h : RS w B ao c ts en k xo xc acc) (hb : Below w.heap.size w w') : RS w' B ao c ts en k xo xc acc where
  blk := by rw [hb.block B h.lt]; exact h.blk
  toks := h.toks.later (hb.mono (Nat.le_of_lt h.lt))
  own := h.own.below hb
  cap := h.cap

theorem RS.step {w : World} {B : Nat} {ao : Option Addr} {c : Nat} {ts : List Rd.Tk} {en : Int} {k : Nat} {xo : Option Addr} {xc : Nat} {acc : List Rd.Al}
    (h : RS w B ao c ts en k xo xc acc) (k' : Nat) : RS (w.setCell ⟨B, 2, none⟩ (.int .i64 k')) B ao c ts en k' xo xc acc where
  blk := by simp [World.setCell, Array.getElem?_modify, h.blk]
  toks := h.toks.later ((Below.refl _ w).setCell (by exact Nat.le_refl _) _)
  own := h.own.setCell (by exact Nat.lt_succ_self _) _
  cap := h.cap

theorem Below.setBoth {N : Nat} {w w' : World} (h : Below N w w') (a : Addr) (v : Value) : Below N (w.setCell a v) (w'.setCell a v) where
  os := h.os
  tape := h.tape
  output := h.output
  size := by have := h.size; simpa [World.setCell] using this
  block := fun k hk => by simp [World.setCell, Array.getElem?_modify, h.block k hk]

theorem size_setCell (w : World) (a : Addr) (v : Value) : (w.setCell a v).heap.size = w.heap.size := by simp [World.setCell]

theorem grown_of_below {w w' : World} {r : Option Nat} (h : Below w.heap.size w w') : w.grownBy w' r := ⟨h.os, h.tape, h.output, h.size, fun k hk _ => h.block k hk⟩
theorem grown_set (w : World) (B o : Nat) (v : Value) : w.grownBy (w.setCell ⟨B, o, none⟩ v) (some B) :=
  ⟨rfl, rfl, rfl, by simp [World.setCell], fun k _ hne => Below.heap_setCell _ _ _ _ (fun e => hne (by rw [e]))⟩
theorem grown_trans {a b c : World} {r : Option Nat} (h : a.grownBy b r) (h' : b.grownBy c r) : a.grownBy c r :=
  ⟨h'.os.trans h.os, h'.tape.trans h.tape, h'.output.trans h.output, Nat.le_trans h.size h'.size, fun k hk hne => (h'.block k (Nat.lt_of_lt_of_le hk h.size) hne).trans (h.block k hk hne)⟩
theorem below_of_grown {w w' : World} {B : Nat} (h : w.grownBy w' (some B)) (hB : B ≤ w.heap.size) : Below B w w' :=
  ⟨h.os, h.tape, h.output, h.size, fun k hk => h.block k (Nat.lt_of_lt_of_le hk hB) (fun e => by cases e; exact Nat.lt_irrefl _ hk)⟩

/-- what take comes to -/
def TakePost (w : World) (B : Nat) (ao : Option Addr) (c : Nat) (ts : List Rd.Tk) (en : Int) (k : Nat) (xo : Option Addr) (xc : Nat) (acc : List Rd.Al) (ks : List Int) (e : Ending) (w' : World) : Prop :=
  w.grownBy w' (some B) ∧ (((ts.length ≤ k ∧ e = thrown (12, en)) ∨ (∃ h : k < ts.length, ks.contains ts[k].kind = false ∧ e = thrown (12, ts[k].pos))) ∨
    (∃ h : k < ts.length, ks.contains ts[k].kind = true ∧ e = .returned (tkVal ts[k]) ∧ RS w' B ao c ts en (k + 1) xo xc acc))

set_option maxHeartbeats 1600000 in
theorem take_any (ks : List Int) (hks : ks.length ≤ 2) (g : Nat) (w : World) (B : Nat) (ao : Option Addr) (c : Nat) (ts : List Rd.Tk) (en : Int) (k : Nat) (xo : Option Addr) (xc : Nat) (acc : List Rd.Al)
    (hl : ts.length ≤ 2000) (hk : k ≤ ts.length) (h : RS w B ao c ts en k xo xc acc) (hc : ∀ i (h : i < ks.length), w.cell? ⟨g, i, none⟩ = some (.int .i64 ks[i])) :
    Calls Try.prog 116 #[.pointer (some ⟨B, 0, none⟩), .slice (some ⟨g, 0, none⟩) ks.length ks.length] w (TakePost w B ao c ts en k xo xc acc ks) := by
  obtain ⟨r0, r1, r2, r3, z0, z1, z2, z3⟩ := cells_four h.blk
  have hlt := h.lt
  have HC : Hid _ := hc
  have HR : Hid _ := h
  clear hc h
  by_cases hkl : k < ts.length
  · obtain ⟨b, o, rfl, hb0, hb1, a0, a1, a2⟩ := HR.out.toks k hkl
    have HT : Hid (∃ t, t = ts[k]) := ⟨_, rfl⟩
    have hne : ((k : Int) == (ts.length : Int)) = false := beq_eq_false_iff_ne.2 (by omega)
    have hneb : b ≠ B := by omega
    generalize hx : ts[k] = x at a0 a1 a2
    have HX : Hid _ := hx
    clear hx
    obtain ⟨kd, tx, ps⟩ := x
    simp only at a0 a1 a2
    have HB : Hid (∀ n, Below w.heap.size w (((w.alloc (Obj.cells #[Value.int IntKind.i64 0, Value.string { data := #[] }, Value.int IntKind.i64 0] 101)).drewN n).alloc (Obj.cells #[Value.int IntKind.i64 kd, Value.string tx, Value.int IntKind.i64 ps] 101))) :=
      fun n => (below_drewN ((Below.refl _ w).alloc (Nat.le_refl _) _) n).alloc (by simp) _
    cases hin : ks.contains kd
    · have P : Hid (∀ w', Below w.heap.size w w' → TakePost w B (some ⟨b, o, none⟩) c ts en k xo xc acc ks (thrown (12, ps)) w') := fun w' hb =>
        ⟨grown_of_below hb, .inl (.inr ⟨hkl, by rw [HX.out]; exact hin, by rw [HX.out]⟩)⟩
      clear HX
      go_enter Try.func116, Try.ntmps116
      go_wp2_with fail
      go_quiet (fail)
      go_wp2_with fail
      go_region
      go_wp2_with fail
      refine (contains_is _ ks hks g kd _ (fun i hi => cell_later (HB.out (nq + 1)) (HC.out i hi)) hin).mono ?_
      rintro e w1 ⟨rfl, rfl⟩
      go_wp2_with (go_at_call 122; refine (rthrow_any _ _ _).mono ?_; rintro e w2 ⟨rfl, rfl⟩)
      exact ⟨rfl, P.out _ (HB.out _)⟩
    · go_enter Try.func116, Try.ntmps116
      go_wp2_with fail
      go_quiet (fail)
      go_wp2_with fail
      go_region
      go_wp2_with fail
      refine (contains_is _ ks hks g kd _ (fun i hi => cell_later (HB.out (nq + 1)) (HC.out i hi)) hin).mono ?_
      rintro e w1 ⟨rfl, rfl⟩
      go_wp2_with fail
      refine bodyPost_ret (v := .agg #[.int .i64 kd, .string tx, .int .i64 ps]) (by simp [results, Try.results116, go_sem]) rfl ?_
      have hbb : Below w.heap.size (w.setCell ⟨B, 2, none⟩ (.int .i64 (k + 1 : Nat))) ((((((w.alloc (Obj.cells #[Value.int IntKind.i64 0, Value.string { data := #[] }, Value.int IntKind.i64 0] 101)).drewN (nq + 1)).setCell ⟨B, 2, none⟩ (.int .i64 (k + 1 : Nat))).setCell ⟨w.heap.size, 0, none⟩ (.int .i64 kd)).setCell ⟨w.heap.size, 1, none⟩ (.string tx)).setCell ⟨w.heap.size, 2, none⟩ (.int .i64 ps)) :=
        (((Below.setBoth (below_drewN ((Below.refl _ w).alloc (Nat.le_refl _) _) _) _ _).setCell (by exact Nat.le_refl _) _).setCell (by exact Nat.le_refl _) _).setCell (by exact Nat.le_refl _) _
      rw [show ((k : Int) + 1) = ((k + 1 : Nat) : Int) from by omega]
      refine ⟨?_, .inr ⟨hkl, by rw [HX.out]; exact hin, by rw [HX.out]; rfl, ?_⟩⟩
      · exact grown_trans (grown_set w B 2 _) (grown_trans (grown_of_below (by rw [size_setCell]; exact hbb)) (grown_of_below ((Below.refl _ _).alloc (Nat.le_refl _) _)))
      · have := (HR.out.step (k + 1)).below (w' := _) (by rw [size_setCell]; exact hbb)
        exact this.below ((Below.refl _ _).alloc (Nat.le_refl _) _)
  · have e : k = ts.length := by omega
    subst e
    have hne : ((ts.length : Int) == (ts.length : Int)) = true := by simp
    have P : Hid (∀ w', Below w.heap.size w w' → TakePost w B ao c ts en ts.length xo xc acc ks (thrown (12, en)) w') := fun w' hb =>
        ⟨grown_of_below hb, .inl (.inl ⟨Nat.le_refl _, rfl⟩)⟩
    go_enter Try.func116, Try.ntmps116
    go_wp2_with fail
    go_quiet (fail)
    go_wp2_with (go_at_call 122; refine (rthrow_any _ _ _).mono ?_; rintro e w2 ⟨rfl, rfl⟩)
    exact ⟨rfl, P.out _ (below_drewN ((Below.refl _ w).alloc (Nat.le_refl _) _) _)⟩
end Go.Proofs.Ytdocbgfpnaiijaa

namespace Go.Proofs.Ytdocbgfpnaiijaa
open Go.RowKit

/-- what holds of memory while altOf goes: its result's block R, its own variable's block A, the row -/
structure AInv (w wr : World) (R A : Nat) (l : Rd.Tk) (v : Value) (done : List Rd.Tk) : Prop where
  below : Below w.heap.size w wr
  lt : w.heap.size ≤ R ∧ R < A ∧ A < wr.heap.size
  rb : wr.heap[R]? = some (.cells #[.int .i64 0, .string ⟨#[]⟩, .int .i64 0, .slice none 0 0] 104 (0, 0))
  ab : wr.heap[A]? = some (.cells #[.int .i64 l.kind, .string l.text, .int .i64 l.pos, v] 104 (0, 0))
  own : wr.ownsRow (A + 1) 101 3 v done.length (tksCells done)

theorem AInv.later {w wr w1 : World} {R A : Nat} {l : Rd.Tk} {v : Value} {done : List Rd.Tk} (h : AInv w wr R A l v done) (hb : Below wr.heap.size wr w1) : AInv w w1 R A l v done where
  below := h.below.trans (hb.mono h.below.size)
  lt := ⟨h.lt.1, h.lt.2.1, Nat.lt_of_lt_of_le h.lt.2.2 hb.size⟩
  rb := by rw [hb.block R (by have := h.lt; omega)]; exact h.rb
  ab := by rw [hb.block A h.lt.2.2]; exact h.ab
  own := ownsRow_below h.own hb

theorem AInv.drew {w wr : World} {R A : Nat} {l : Rd.Tk} {v : Value} {done : List Rd.Tk} (h : AInv w wr R A l v done) : AInv w wr.drew R A l v done := ⟨h.below.drew, h.lt, h.rb, h.ab, h.own⟩

theorem AInv.grown {w wr w1 : World} {R A : Nat} {l : Rd.Tk} {v : Value} {done : List Rd.Tk} (h : AInv w wr R A l v done) (hg : wr.grownBy w1 v.ownBlock) :
    w1.heap[A]? = some (.cells #[.int .i64 l.kind, .string l.text, .int .i64 l.pos, v] 104 (0, 0)) := by
  rw [hg.block A h.lt.2.2 (fun e => by have := (h.own.lt _ e.symm).1; omega)]; exact h.ab

theorem AInv.push {w wr w1 : World} {R A : Nat} {l : Rd.Tk} {v v' : Value} {done : List Rd.Tk} (h : AInv w wr R A l v done) (t : Rd.Tk) (hg : wr.grownBy w1 v.ownBlock)
    (ho : w1.ownsRow (A + 1) 101 3 v' (done.length + 1) (tksCells done ++ tkCells t)) : AInv w (w1.setCell ⟨A, 3, none⟩ v') R A l v' (done ++ [t]) where
  below := (h.below.grown hg h.below.size (fun k hk => by have := (h.own.lt k hk).1; have := h.lt; omega)).setCell (by have := h.lt; show w.heap.size ≤ A; omega) _
  lt := ⟨h.lt.1, h.lt.2.1, by rw [size_setCell]; exact Nat.lt_of_lt_of_le h.lt.2.2 hg.size⟩
  rb := by
    rw [Below.heap_setCell _ _ _ _ (by show R ≠ A; have := h.lt; omega), hg.block R (by have := h.lt; omega) (fun e => by have := (h.own.lt _ e.symm).1; have := h.lt; omega)]
    exact h.rb
  ab := by simp [World.setCell, Array.getElem?_modify, h.grown hg]
  own := by
    rw [List.length_append, tksCells_snoc]
    exact ownsRow_setCell_below ho (by exact Nat.lt_succ_self _) _

theorem Try.infoTk : (Try.prog.info? 101).map (fun i => (i.zero, i.size, i.bytes)) = some (some (.agg #[.int .i64 0, .string ⟨#[]⟩, .int .i64 0]), 3, 32) := by kernel_rfl

set_option maxHeartbeats 1600000 in
theorem altOf_any (l : Rd.Tk) (ts : List Rd.Tk) (ao : Option Addr) (c : Nat) (w : World) (hl : ts.length ≤ 8) (hlt : l.text.size ≤ 281474976710656) (hx : ∀ t ∈ ts, t.text.size ≤ 281474976710656) (h : TksAt w.heap.size w ao ts) :
    Calls Try.prog 124 #[tkVal l, .slice ao ts.length c] w fun e w' => ∃ xo xn xc, e = .returned (.agg #[.int .i64 l.kind, .string l.text, .int .i64 l.pos, .slice xo xn xc]) ∧ Below w.heap.size w w' ∧
      w'.ownsRow w.heap.size 101 3 (.slice xo xn xc) ts.length (tksCells ts) := by
  have HT : Hid (TksAt w.heap.size w ao ts) := h
  have HX : Hid _ := hx
  clear h hx
  have HL : Hid _ := cloneOf_any l
  obtain ⟨i0, hi, hz0, hz1, hz2⟩ := info_parts Try.infoTk
  have HI : Hid (Try.prog.info? 101 = some i0 ∧ i0.zero = some (.agg #[.int .i64 0, .string ⟨#[]⟩, .int .i64 0]) ∧ i0.size = 3 ∧ i0.bytes = 32) := ⟨hi, hz0, hz1, hz2⟩
  clear hi hz0 hz1 hz2
  obtain ⟨k, x, p⟩ := l
  unfold tkVal at *
  simp only at hlt HL ⊢
  go_enter Try.func124, Try.ntmps124
  go_wp2_with fail
  refine (HL.out _ hlt).mono ?_
  rintro e w1 ⟨rfl, hb⟩
  have hz : w.heap.size + 1 < w1.heap.size := by have := hb.size; simp at this; omega
  have hb0 : Below w.heap.size w w1 := (((Below.refl _ w).alloc (Nat.le_refl _) _).alloc (by simp) _).trans (hb.mono (by simp; omega))
  have hrb : w1.heap[w.heap.size + 1]? = some (.cells #[.int .i64 0, .string ⟨#[]⟩, .int .i64 0, .slice none 0 0] 104 (0, 0)) := by
    rw [hb.block _ (by simp)]
    have := heap_alloc_new (w.alloc (.cells #[.int .i64 k, .string x, .int .i64 p] 101)) (.cells #[.int .i64 0, .string ⟨#[]⟩, .int .i64 0, .slice none 0 0] 104)
    simpa using this
  have HA : Hid (AInv w (w1.alloc (.cells #[.int .i64 k, .string x, .int .i64 p, .slice none 0 0] 104)) (w.heap.size + 1) w1.heap.size ⟨k, x, p⟩ (.slice none 0 0) []) :=
    ⟨hb0.alloc hb0.size _, ⟨by omega, by omega, by simp⟩, by rw [Below.heap_alloc _ _ _ (by omega)]; exact hrb, heap_alloc_new _ _, World.ownsRow_nil _ _ _ _⟩
  clear hb hrb HL
  go_wp2_with fail
  go_loopw [13] (fun i wr => ∃ (q : Nat) (xo : Option Addr) (xn xc : Nat), q ≤ ts.length ∧ i = .int .i64 q ∧ Hid (AInv w wr (w.heap.size + 1) w1.heap.size ⟨k, x, p⟩ (.slice xo xn xc) (ts.take q))) (fun i _ => ts.length - (intOf i).toNat)
  case atStart => exact ⟨0, none, 0, 0, Nat.zero_le _, rfl, HA⟩
  case round =>
    obtain ⟨q, xo, xn, xc, hq, rfl, hinv⟩ := hrel
    clear HA
    obtain ⟨a0, a1, a2, a3, az0, az1, az2, az3⟩ := cells_four hinv.out.ab
    obtain ⟨r0, r1, r2, r3, rz0, rz1, rz2, rz3⟩ := cells_four hinv.out.rb
    have hlts := hinv.out.lt
    by_cases hql : q < ts.length
    · obtain ⟨b, o, rfl, hb1, _, t0, t1, t2⟩ := HT.out q hql
      replace t0 := cell_later hinv.out.below t0
      replace t1 := cell_later hinv.out.below t1
      replace t2 := cell_later hinv.out.below t2
      have HK : Hid (ts.take (q + 1) = ts.take q ++ [ts[q]]) := by show _ = _; rw [List.take_add_one, List.getElem?_eq_getElem hql]; rfl
      have hsz : (ts[q]).text.size ≤ 281474976710656 := HX.out _ (List.getElem_mem hql)
      have HL : Hid _ := cloneOf_any ts[q]
      have HQ : Hid ((ts.take q).length = q) := by show _ = _; rw [List.length_take]; omega
      generalize ts[q] = y at *
      obtain ⟨yk, yx, yp⟩ := y
      unfold tkVal at *
      simp only at t0 t1 t2 hsz HL
      have h8 : (ts.take q).length ≤ 8 := by rw [HQ.out]; omega
      go_wp2_with fail
      go_region_law
        (first
          | (go_simp; go_at_call 127; refine (HL.out _ hsz).mono ?_; rintro e w2 ⟨rfl, hb2⟩; have hinv2 : Hid (AInv w w2 (w.heap.size + 1) w1.heap.size ⟨k, x, p⟩ (.slice xo xn xc) (ts.take q)) := (hinv.out.later ((Below.refl _ wr).alloc (Nat.le_refl _) _)).drew.later hb2; obtain ⟨d0, d1, d2, d3, dz0, dz1, dz2, dz3⟩ := cells_four hinv2.out.ab; have hlt2 := hinv2.out.lt)
          | (refine step_append_lies _ (by rfl) _ _ _ (by rfl) (w1.heap.size + 1) 101 i0 _ 3 32 Try.underlying102 HI.out.1 HI.out.2.1 HI.out.2.2.1 HI.out.2.2.2 rfl (by omega) (.slice xo xn xc) (ts.take q).length (tksCells (ts.take q)) (by rfl) (hinv2.out.own.alloc _) ⟨w2.heap.size, 0, none⟩ 1 1 [.int .i64 yk, .string yx, .int .i64 yp] (by rfl) (by rfl) (World.news_of_block (cs := #[.int .i64 yk, .string yx, .int .i64 yp]) (t := 101) (fr := (0, 0)) (heap_alloc_new w2 _)) (by simp [Value.oneCell']) (by omega) (by unfold maxLen; omega) (by omega) (by simp; omega) (w2.heap.size + 1) (by simp) ?_; intro g cap w3 hown3 hgrow hat hlt1; obtain ⟨q0, q1, q2, q3, qz0, qz1, qz2, qz3⟩ := cells_four ((hinv2.out.later ((Below.refl _ w2).alloc (Nat.le_refl _) _)).grown hgrow)))
      all_goals
        have hpush : Hid (AInv w (w3.setCell ⟨w1.heap.size, 3, none⟩ (.slice (some ⟨g, 0, none⟩) (q + 1) cap)) (w.heap.size + 1) w1.heap.size ⟨k, x, p⟩ (.slice (some ⟨g, 0, none⟩) (q + 1) cap) (ts.take (q + 1))) := by
          have ho := hown3
          rw [HQ.out] at ho
          rw [HK.out]; exact (hinv2.out.later ((Below.refl _ w2).alloc (Nat.le_refl _) _)).push ⟨yk, yx, yp⟩ hgrow (by rw [HQ.out]; exact ho)
        clear hgrow hown3 a0 a1 a2 a3 az0 az1 az2 az3 r0 r1 r2 r3 rz0 rz1 rz2 rz3 d0 d1 d2 d3 dz0 dz1 dz2 dz3 q0 q1 q2 q3 qz0 qz1 qz2 qz3 t0 t1 t2
        go_wp2_with fail
        go_roundw
        case rel => exact ⟨q + 1, _, _, _, by omega, by go_num, hpush⟩
        case measure => simp [intOf]; omega
    · have HK : Hid (ts.take q = ts) := by show _ = _; rw [List.take_of_length_le (by omega)]
      go_wp2_with fail
      refine bodyPost_ret (v := .agg #[.int .i64 k, .string x, .int .i64 p, .slice xo xn xc]) (by simp [results, Try.results124, go_sem, r0, r1, r2, r3]) rfl ⟨xo, xn, xc, rfl, ?_, ?_⟩
      · have := hinv.out.below
        exact ((((this.setCell (by exact Nat.le_succ _) _).setCell (by exact Nat.le_succ _) _).setCell (by exact Nat.le_succ _) _).setCell (by exact Nat.le_succ _) _)
      · have := hinv.out.own
        rw [HK.out] at this
        have hz1 : w.heap.size + 1 < w1.heap.size + 1 := by omega
        exact ownsRow_from (ownsRow_setCell_below (ownsRow_setCell_below (ownsRow_setCell_below (ownsRow_setCell_below this hz1 _) hz1 _) hz1 _) hz1 _) (by omega)
end Go.Proofs.Ytdocbgfpnaiijaa
