/-
  The law GrammarSpoilt: rows of rules whose right sides lie wherever; what the law's list of those that have come holds.
-/
import Derived.Test.YtimjopaedfefmaaGrOwn
import Derived.Test.YtimjopaedfefmaaGrWakes
import Derived.Test.YtimjopaedfefmaaGrKeeps
import Derived.Test.YtimjopaedfefmaaGrOpen
import Derived.Test.YtimjopaedfefmaaGrMathB
namespace Go.Proofs.Ytimjopaedfefmaa
open Go.RowKit

/-- rules in a row of one's own, whose right sides lie wherever -/
theorem rlsAt_of {base : Nat} {w : World} {v : Value} {ps : List (Gr.Rl × Value)} (hown : w.ownsRow base 43 2 v ps.length (rlsCells ps)) (hr : ∀ p ∈ ps, ∃ ro rc, p.2 = .slice ro p.1.2.length rc ∧ IntsAt w.heap.size w ro p.1.2 ∧ p.1.2.length ≤ rc ∧ rc ≤ maxLen) :
    ∃ ao c, v = .slice ao ps.length c ∧ RlsAt w.heap.size w ao (ps.map (·.1)) ∧ ps.length ≤ c ∧ c ≤ maxLen := by
  have hc := hown
  rcases hown.2 with ⟨rfl, h0⟩ | ⟨g, cap, cur, rfl, hg, hh, hl, hm, _⟩
  · have : ps = [] := List.eq_nil_of_length_eq_zero h0
    subst this
    exact ⟨none, 0, rfl, RlsAt.nil, Nat.le_refl _, Nat.zero_le _⟩
  · have hlt := (Array.getElem?_eq_some_iff.1 hh).1
    refine ⟨_, _, rfl, fun i hi => ?_, hl, hm⟩
    have hi' : i < ps.length := by simpa using hi
    obtain ⟨ro, rc, hv, ht, h4, h5⟩ := hr ps[i] (List.getElem_mem hi')
    obtain ⟨k0, k1⟩ := rlsCells_get ps i hi'
    have e : (ps.map (·.1))[i] = ps[i].1 := by simp
    refine ⟨g, 0, ro, rc, rfl, hlt, hlt, ?_, ?_, ?_, ?_, h5⟩
    · have := hc.cells (g := g) rfl _ _ k0
      rw [addr_zero_add] at this; rw [e, Nat.zero_add]; exact this
    · have := hc.cells (g := g) rfl _ _ k1
      rw [addr_zero_add] at this; rw [e, Nat.zero_add, ← hv]; exact this
    · rw [e]; exact ht
    · rw [e]; exact h4

theorem OwnRls.kept_row {base base' : Nat} {w w' : World} {v vr : Value} {rs : List Gr.Rl} {e : TypeId} {z n : Nat} {xs : List Value} (h : OwnRls base w v rs) (hrow : w.ownsRow base' e z vr n xs) (hg : w.grownBy w' vr.ownBlock) (h1 : 43 ≠ e) (h2 : 3 ≠ e) : OwnRls base w' v rs := by
  obtain ⟨ps, e1, e2, e3⟩ := h
  exact ⟨ps, e1, World.ownsRow.kept e2 hg (row_apart e2 hrow h1), fun p hp => World.ownsRow.kept (e3 p hp) hg (row_apart (e3 p hp) hrow h2)⟩
theorem OwnRls.set_other {base : Nat} {w : World} {v : Value} {rs : List Gr.Rl} {X o : Nat} {cs : Array Value} (h : OwnRls base w v rs) (hX : w.heap[X]? = some (.cells cs 26 (0, 0))) (u : Value) : OwnRls base (w.setCell ⟨X, o, none⟩ u) v rs := by
  obtain ⟨ps, e1, e2, e3⟩ := h
  exact ⟨ps, e1, ownsRow_setCell_other e2 (own_ne e2 hX (by decide)) _, fun p hp => ownsRow_setCell_other (e3 p hp) (own_ne (e3 p hp) hX (by decide)) _⟩
theorem OwnStrs.set_other {base : Nat} {w : World} {v : Value} {ss : List ByteArray} {X o : Nat} {cs : Array Value} (h : OwnStrs base w v ss) (hX : w.heap[X]? = some (.cells cs 26 (0, 0))) (u : Value) : OwnStrs base (w.setCell ⟨X, o, none⟩ u) v ss := ownsRow_setCell_other h (own_ne h hX (by decide)) _

/-- append of a rule, whose right side lies wherever, onto a row of rules of one's own -/
theorem wpList_append_any {ops : Array Oper} {rest : List Oper} {o : Oper} {a : Act} {Q : Exit → Act → World → Prop} {w : World} (hw : Region.wanted o (yielded ops a.tmps) = true) (s x : Operand)
    (ho : o.op = .call { callee := .builtin .append, args := #[s, x], argTypes := #[24, 24] }) (base : Nat) (v : Value) (rs : List Gr.Rl) (hs : a.eval s = v) (hown : OwnRls base w v rs)
    (b c : Nat) (r : Gr.Rl) (ro : Option Addr) (rc : Nat) (hx : a.eval x = .slice (some ⟨b, 0, none⟩) 1 c) (hc0 : w.cell? ⟨b, 0, none⟩ = some (.int .i64 r.1)) (hc1 : w.cell? ⟨b, 1, none⟩ = some (.slice ro r.2.length rc))
    (hr : IntsAt base w ro r.2) (hrc : r.2.length ≤ rc ∧ rc ≤ maxLen) (hb : rs.length + 1 ≤ 2000) (hbase : base ≤ w.heap.size) (X : Nat) (hX : base ≤ X) (cs : Array Value) (hXb : w.heap[X]? = some (.cells cs 26 (0, 0)))
    (h : ∀ g cap w', (∀ u, RlsAt (w'.setCell ⟨X, 2, none⟩ u).heap.size (w'.setCell ⟨X, 2, none⟩ u) (some ⟨g, 0, none⟩) (rs ++ [r])) → rs.length + 1 ≤ cap → cap ≤ maxLen → w.grownBy w' v.ownBlock → wpList Try.prog ops Q rest (a.put o.dst (.slice (some ⟨g, 0, none⟩) (rs.length + 1) cap)) w') : wpList Try.prog ops Q (o :: rest) a w := by
  obtain ⟨iA, hi, hz0, hz1, hz2⟩ := info_parts Try.infoRl
  obtain ⟨ps, h1, h2, h3⟩ := hown
  have hpl : ps.length = rs.length := by rw [← h1, List.length_map]
  refine wpList_wanted hw fun K hK => wp_append_lies _ s x 24 ho base 43 iA _ 2 32 Try.underlying24 hi hz0 hz1 hz2 rfl (by decide) v ps.length _ hs h2 ⟨b, 0, none⟩ 1 c (rlCells (r, .slice ro r.2.length rc)) hx rfl ?_ (by simp [rlCells, Value.oneCell']) (by decide) (by unfold maxLen; omega) (by omega) hbase _ rfl
    (fun g cap w' h4 h5 _ _ => ?_)
  · intro j y hj
    match j with
    | 0 => simp [rlCells] at hj; subst hj; simpa [addr_zero_add] using hc0
    | 1 => simp [rlCells] at hj; subst hj; simpa [addr_zero_add] using hc1
    | j + 2 => simp [rlCells] at hj
  · have h4' : w'.ownsRow base 43 2 (.slice (some ⟨g, 0, none⟩) (ps.length + 1) cap) (ps ++ [(r, Value.slice ro r.2.length rc)]).length (rlsCells (ps ++ [(r, .slice ro r.2.length rc)])) := by
      rw [rlsCells_append, List.length_append]
      simpa [rlsCells] using h4
    have hXw : w'.heap[X]? = some (.cells cs 26 (0, 0)) := by
      rw [h5.block X (Array.getElem?_eq_some_iff.1 hXb).1 (fun e => own_ne h2 hXb (by decide) e.symm)]; exact hXb
    have key : ∀ u, ∃ ao cc, (Value.slice (some ⟨g, 0, none⟩) (ps.length + 1) cap) = .slice ao (ps ++ [(r, Value.slice ro r.2.length rc)]).length cc ∧ RlsAt (w'.setCell ⟨X, 2, none⟩ u).heap.size (w'.setCell ⟨X, 2, none⟩ u) ao ((ps ++ [(r, Value.slice ro r.2.length rc)]).map (·.1)) ∧ (ps ++ [(r, Value.slice ro r.2.length rc)]).length ≤ cc ∧ cc ≤ maxLen := fun u =>
      rlsAt_of (ownsRow_setCell_other h4' (own_ne h4' hXw (by decide)) u) (fun p hp => by
        rcases List.mem_append.1 hp with hp | hp
        · have hk := World.ownsRow.kept (h3 p hp) h5 (row_apart (h3 p hp) h2 (by decide))
          have hk2 : OwnInts base (w'.setCell ⟨X, 2, none⟩ u) p.2 p.1.2 := ownsRow_setCell_other hk (own_ne hk hXw (by decide)) u
          obtain ⟨ro', rc', e1, e2, e3, e4, _⟩ := OwnInts.read hk2
          exact ⟨ro', rc', e1, e2, e3, e4⟩
        · rw [List.mem_singleton] at hp
          subst hp
          refine ⟨ro, rc, rfl, ?_, hrc⟩
          refine CellsAt.size (N := base) (CellsAt.later hr ?_)
          refine Below.setCell ⟨h5.os, h5.tape, h5.output, h5.size, fun k hk => h5.block k (by omega) (fun e => ?_)⟩ hX u
          have := (h2.lt k e.symm).1
          omega)
    obtain ⟨ao, cc, e, _, h7, h8⟩ := key (.bool false)
    rw [List.length_append] at e h7
    simp only [List.length_cons, List.length_nil] at e h7
    cases e
    have h6 : ∀ u, RlsAt (w'.setCell ⟨X, 2, none⟩ u).heap.size (w'.setCell ⟨X, 2, none⟩ u) (some ⟨g, 0, none⟩) (rs ++ [r]) := fun u => by
      obtain ⟨ao, cc, e, h6, _, _⟩ := key u
      rw [List.length_append] at e
      simp only [List.length_cons, List.length_nil] at e
      cases e
      rw [List.map_append, h1] at h6
      exact h6
    rw [hpl] at h7 ⊢
    exact hK _ _ (h g cap w' h6 h7 h8 h5)
end Go.Proofs.Ytimjopaedfefmaa

namespace Go.Proofs.Ytimjopaedfefmaa
theorem gset_one {w : World} {b : Nat} {x y r z : Value} {t : TypeId} (h : w.heap[b]? = some (.cells #[x, y, r] t (0, 0))) : (w.setCell ⟨b, 1, none⟩ z).heap[b]? = some (.cells #[x, z, r] t (0, 0)) := by
  simp [World.setCell, Array.getElem?_modify, h]
end Go.Proofs.Ytimjopaedfefmaa

namespace Go.Proofs.Ytimjopaedfefmaa.Gr
/-- has a number come (those from t on count as t)? -/
def cameB (t : Nat) (xs : List Int) (s : Nat) : Bool := xs.any (fun y => decide (min y (t : Int) = (s : Int)))
def cameL (t : Nat) (xs : List Int) : List Value := (List.range (t + 1)).map (fun s => .bool (cameB t xs s))
theorem cameL_len (t : Nat) (xs : List Int) : (cameL t xs).length = t + 1 := by simp [cameL]
theorem cameL_get (t : Nat) (xs : List Int) (s : Nat) (h : s ≤ t) : (cameL t xs)[s]? = some (.bool (cameB t xs s)) := by
  unfold cameL
  rw [List.getElem?_map, List.getElem?_range (by omega)]; rfl
theorem cameL_nil (t : Nat) : cameL t [] = List.replicate (t + 1) (.bool false) := by
  apply List.ext_getElem?
  intro i
  by_cases h : i ≤ t
  · rw [cameL_get _ _ _ h, List.getElem?_replicate, if_pos (by omega)]; rfl
  · rw [List.getElem?_eq_none (by rw [cameL_len]; omega), List.getElem?_eq_none (by rw [List.length_replicate]; omega)]
theorem cameL_snoc (t : Nat) (xs : List Int) (y : Int) (h : 0 ≤ y) : cameL t (xs ++ [y]) = (cameL t xs).set (min y (t : Int)).toNat (.bool true) := by
  apply List.ext_getElem?
  intro i
  by_cases hi : i ≤ t
  · rw [cameL_get _ _ _ hi, List.getElem?_set]
    by_cases e : (min y (t : Int)).toNat = i
    · rw [if_pos e, if_pos (by rw [cameL_len]; omega)]
      have : cameB t (xs ++ [y]) i = true := by
        unfold cameB; rw [List.any_append]
        have : decide (min y (t : Int) = (i : Int)) = true := decide_eq_true (by omega)
        simp [this]
      rw [this]
    · rw [if_neg e, cameL_get _ _ _ hi]
      have : cameB t (xs ++ [y]) i = cameB t xs i := by
        unfold cameB; rw [List.any_append]
        have : decide (min y (t : Int) = (i : Int)) = false := decide_eq_false (by omega)
        simp [this]
      rw [this]
  · rw [List.getElem?_eq_none (by rw [cameL_len]; omega), List.getElem?_eq_none (by rw [List.length_set, cameL_len]; omega)]

/-- all numbers of right sides, one behind the other -/
def rights (rs : List Rl) : List Int := rs.flatMap (·.2)
theorem rights_step (rs : List Rl) (k : Nat) (h : k < rs.length) : rights (rs.take (k + 1)) = rights (rs.take k) ++ rs[k].2 := by
  unfold rights; rw [List.take_add_one, List.getElem?_eq_getElem h, List.flatMap_append]; simp
theorem came_has (t : Nat) (rs : List Rl) (s : Int) (h0 : 0 ≤ s) (h1 : s < t) : cameB t (rights rs) s.toNat = rs.any (fun x => has s x.2) := by
  rw [Bool.eq_iff_iff]
  unfold cameB rights
  rw [List.any_eq_true, List.any_eq_true]
  constructor
  · rintro ⟨y, hy, e⟩
    have e := of_decide_eq_true e
    obtain ⟨x, hx, hyx⟩ := List.mem_flatMap.1 hy
    have : y = s := by omega
    subst this
    exact ⟨x, hx, has_mem hyx⟩
  · rintro ⟨x, hx, hs⟩
    exact ⟨s, List.mem_flatMap.2 ⟨x, hx, has_yes hs⟩, decide_eq_true (by omega)⟩
end Go.Proofs.Ytimjopaedfefmaa.Gr

namespace Go.Proofs.Ytimjopaedfefmaa
open Go.RowKit
theorem Try.infoBl : (Try.prog.info? 4).map (fun i => (i.zero, i.size, i.bytes)) = some (some (.bool false), 1, 1) := by kernel_rfl

theorem made_bools (n : Nat) : madeCells (Value.bool false).cells n = (List.replicate n (.bool false)).toArray := by
  apply Array.ext'
  rw [List.toList_toArray]
  apply List.ext_getElem?
  intro i
  unfold madeCells
  rw [List.getElem?_replicate]
  by_cases h : i < n
  · simp [h, Value.cells, Nat.mod_one]
  · simp [h]

/-- a list of so many that have not come -/
theorem make_bools (t : Nat) (h : t ≤ 4000) (W : World) : (Instr.makeSlice 44 (.int .i64 ((t : Int) + 1)) (.int .i64 ((t : Int) + 1))).run Try.prog W = .ok (.slice (some ⟨W.heap.size, 0, none⟩) (t + 1) (t + 1)) (W.alloc (.cells (Gr.cameL t []).toArray 4)) := by
  obtain ⟨iA, hi, hz0, hz1, hz2⟩ := info_parts Try.infoBl
  have := run_makeSlice (P := Try.prog) W 44 4 iA (.bool false) Try.underlying44 hi hz0 .i64 .i64 ((t : Int) + 1) ((t : Int) + 1) (by omega) (Int.le_refl _) (by rw [hz1]; omega) (by rw [hz2]; omega) (by omega)
  rw [this, hz1, made_bools, Gr.cameL_nil, show ((t : Int) + 1).toNat = t + 1 from by omega, Nat.mul_one]

/-- the list of those that have come, the last block of some -/
structure SInv (V wr : World) (X t : Nat) (xs : List Int) : Prop where
  below : Below X V wr
  lt : X < wr.heap.size
  blk : wr.heap[X]? = some (.cells (Gr.cameL t xs).toArray 4 (0, 0))

theorem SInv.later {V wr w1 : World} {X t : Nat} {xs : List Int} (h : SInv V wr X t xs) (hb : Below wr.heap.size wr w1) : SInv V w1 X t xs :=
  ⟨h.below.trans (hb.mono (Nat.le_of_lt h.lt)), Nat.lt_of_lt_of_le h.lt hb.size, by rw [hb.block _ h.lt]; exact h.blk⟩
theorem SInv.drewN {V wr : World} {X t : Nat} {xs : List Int} (h : SInv V wr X t xs) (n : Nat) : SInv V (wr.drewN n) X t xs := h.later (below_drewN (Below.refl _ wr) n)
theorem SInv.set {V wr : World} {X t : Nat} {xs : List Int} (h : SInv V wr X t xs) (y : Int) (u : Nat) (hy : 0 ≤ y) (hu : min y (t : Int) = (u : Int)) : SInv V (wr.setCell ⟨X, u, none⟩ (.bool true)) X t (xs ++ [y]) := by
  refine ⟨h.below.setCell (Nat.le_refl _) _, by rw [size_setCell]; exact h.lt, ?_⟩
  rw [Gr.cameL_snoc t xs y hy, hu, Int.toNat_natCast]
  simp [World.setCell, Array.getElem?_modify, h.blk]
theorem SInv.cell {V wr : World} {X t : Nat} {xs : List Int} (h : SInv V wr X t xs) (u : Nat) (hu : u ≤ t) : wr.cell? ⟨X, u, none⟩ = some (.bool (Gr.cameB t xs u)) ∧ wr.frozen? ⟨X, u, none⟩ = false := by
  have := Gr.cameL_get t xs u hu
  constructor
  · simp [World.cell?, h.blk, this]
  · simp [World.frozen?, h.blk]
theorem Gr.has_step1 {α : Type} [DecidableEq α] (r : α) (l : List α) (k : Nat) (h : k < l.length) : Gr.has r (l.take (k + 1)) = (Gr.has r (l.take k) || decide (l[k] = r)) := by
  unfold Gr.has
  rw [Bool.eq_iff_iff, Bool.or_eq_true, decide_eq_true_eq, decide_eq_true_eq, decide_eq_true_eq, List.take_add_one, List.getElem?_eq_getElem h, List.mem_append]
  constructor
  · rintro (h | h)
    · exact .inl h
    · exact .inr (List.mem_singleton.1 h).symm
  · rintro (h | h)
    · exact .inl h
    · exact .inr (List.mem_singleton.2 h.symm)
end Go.Proofs.Ytimjopaedfefmaa
