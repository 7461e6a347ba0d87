/-
  The document's own Tokens: what its rounds keep, and what a step of the plain function is.
-/
import Derived.Test.YtnphfhoknnnciaaLexRef1
import Derived.Test.YtnphfhoknnnciaaLexRunMath
import Derived.Deep.AppendLies
namespace Go.Proofs.Ytnphfhoknnnciaa
open Go.RowKit

/-- what holds of memory while the document's Tokens goes: its result's block, its own variable's block, the row -/
structure RefInv (w wr : World) (v : Value) (acc : List Lx.Tok) : Prop where
  below : Below w.heap.size w wr
  size : w.heap.size + 2 ≤ wr.heap.size
  rb : wr.heap[w.heap.size]? = some (.cells #[.slice none 0 0, .int .i64 0, .int .i64 0] 62 (0, 0))
  gb : wr.heap[w.heap.size + 1]? = some (.cells #[v, .int .i64 0, .int .i64 0] 62 (0, 0))
  own : wr.ownsRow (w.heap.size + 2) 69 3 v acc.length (toksCells acc)

theorem cells_three {w : World} {b : Nat} {x y z : Value} {t : TypeId} (h : w.heap[b]? = some (.cells #[x, y, z] t (0, 0))) :
    w.cell? ⟨b, 0, none⟩ = some x ∧ w.cell? ⟨b, 1, none⟩ = some y ∧ w.cell? ⟨b, 2, none⟩ = some z ∧ w.frozen? ⟨b, 0, none⟩ = false ∧ w.frozen? ⟨b, 1, none⟩ = false ∧ w.frozen? ⟨b, 2, none⟩ = false := by
  simp [World.cell?, World.frozen?, h]

theorem three_set0 {w : World} {b : Nat} {x y z u : Value} {t : TypeId} (h : w.heap[b]? = some (.cells #[x, y, z] t (0, 0))) :
    (w.setCell ⟨b, 0, none⟩ u).heap[b]? = some (.cells #[u, y, z] t (0, 0)) := by
  simp [World.setCell, Array.getElem?_modify, h]

theorem RefInv.start (w : World) : RefInv w ((w.alloc (.cells #[.slice none 0 0, .int .i64 0, .int .i64 0] 62)).alloc (.cells #[.slice none 0 0, .int .i64 0, .int .i64 0] 62)) (.slice none 0 0) [] where
  below := ((Below.refl _ w).alloc (Nat.le_refl _) _).alloc (by simp) _
  size := by simp
  rb := by
    rw [Below.heap_alloc _ _ _ (by simp)]
    exact heap_alloc_new w _
  gb := by
    have := heap_alloc_new (w.alloc (.cells #[.slice none 0 0, .int .i64 0, .int .i64 0] 62)) (.cells #[.slice none 0 0, .int .i64 0, .int .i64 0] 62)
    simpa using this
  own := World.ownsRow_nil _ _ _ _

theorem RefInv.drew {w wr : World} {v : Value} {acc : List Lx.Tok} (h : RefInv w wr v acc) : RefInv w wr.drew v acc := ⟨h.below.drew, h.size, h.rb, h.gb, h.own⟩
theorem RefInv.drewN {w wr : World} {v : Value} {acc : List Lx.Tok} (h : RefInv w wr v acc) (n : Nat) : RefInv w (wr.drewN n) v acc :=
  ⟨h.below.trans ⟨rfl, rfl, rfl, Nat.le_refl _, fun _ _ => rfl⟩, h.size, h.rb, h.gb, h.own⟩

theorem grownBy_undrew {a b : World} {r : Option Nat} (h : a.drew.grownBy b r) : a.grownBy b r := ⟨h.os, h.tape, h.output, h.size, h.block⟩

theorem RefInv.after {w wr w1 : World} {v : Value} {acc : List Lx.Tok} (h : RefInv w wr v acc) {o : Obj} (hg : (wr.alloc o).grownBy w1 v.ownBlock) :
    w1.heap[w.heap.size + 1]? = some (.cells #[v, .int .i64 0, .int .i64 0] 62 (0, 0)) := by
  have hrow : ∀ k, v.ownBlock = some k → w.heap.size + 2 ≤ k := fun k hk => (h.own.lt k hk).1
  have hsz := h.size
  have hne1 : some (w.heap.size + 1) ≠ v.ownBlock := fun e => by have := hrow _ e.symm; omega
  rw [hg.block _ (by simp; omega) hne1, Below.heap_alloc _ _ _ (by omega)]
  exact h.gb

theorem RefInv.push {w wr w1 : World} {v v' : Value} {acc : List Lx.Tok} (t : Lx.Tok) (h : RefInv w wr v acc) {o : Obj}
    (hg : (wr.alloc o).grownBy w1 v.ownBlock) (ho : w1.ownsRow (w.heap.size + 2) 69 3 v' (acc.length + 1) (toksCells acc ++ tokCells t)) :
    RefInv w (w1.setCell ⟨w.heap.size + 1, 0, none⟩ v') v' (acc ++ [t]) := by
  have hrow : ∀ k, v.ownBlock = some k → w.heap.size + 2 ≤ k := fun k hk => (h.own.lt k hk).1
  have hsz := h.size
  have hne0 : some w.heap.size ≠ v.ownBlock := fun e => by have := hrow _ e.symm; omega
  have hne1 : some (w.heap.size + 1) ≠ v.ownBlock := fun e => by have := hrow _ e.symm; omega
  have s1 : wr.heap.size + 1 ≤ w1.heap.size := by have := hg.size; simpa using this
  refine ⟨?_, ?_, ?_, ?_, ?_⟩
  · refine ((h.below.alloc (by omega) o).grown hg (by simp; omega) (fun k hk => ?_)).setCell (by exact Nat.le_succ _) _
    have := hrow k hk
    omega
  · show w.heap.size + 2 ≤ (w1.setCell _ _).heap.size
    simp [World.setCell]; omega
  · rw [Below.heap_setCell _ _ _ _ (by exact Nat.ne_of_lt (Nat.lt_succ_self _)), hg.block _ (by simp; omega) hne0, Below.heap_alloc _ _ _ (by omega)]
    exact h.rb
  · refine three_set0 (x := v) ?_
    · rw [hg.block _ (by simp; omega) hne1, Below.heap_alloc _ _ _ (by omega)]
      exact h.gb
  · rw [List.length_append, toksCells_snoc]
    exact ownsRow_setCell_below ho (by exact Nat.lt_succ_self _) _

end Go.Proofs.Ytnphfhoknnnciaa

namespace Go.Proofs.Ytnphfhoknnnciaa.Lx

theorem scan_skip {f k n : Nat} {l : List UInt8} (h : gap false l = n + gap false (l.drop n)) : scanF f l k = scanF f (l.drop n) (k + n) := by
  unfold scanF
  rw [h, List.drop_drop]
  congr 1
  omega

theorem scan_blank {f k : Nat} {c : UInt8} {r : List UInt8} (h : (c == 32 || c == 9 || c == 10) = true) : scanF f (c :: r) k = scanF f r (k + 1) := by
  rw [scan_skip (n := 1) (by rw [gap_blank h]; rfl)]; rfl

theorem scan_note {f k : Nat} {c : UInt8} {r : List UInt8} (h : (c == 35) = true) : scanF f (c :: r) k = scanF f ((c :: r).drop (upTo 10 (c :: r))) (k + upTo 10 (c :: r)) :=
  scan_skip (gap_note h)

theorem scan_none {f k : Nat} {c : UInt8} {r : List UInt8} (h1 : (c == 32 || c == 9 || c == 10) = false) (h2 : (c == 35) = false) (h : tokenAt (c :: r) = none) : scanF (f + 1) (c :: r) k = .error k := by
  unfold scanF; rw [gap_else h1 h2, List.drop_zero, run_none (by simp) h]; rfl

theorem scan_some {f k : Nat} {c : UInt8} {r : List UInt8} {t : Nat × List UInt8 × Nat} (h1 : (c == 32 || c == 9 || c == 10) = false) (h2 : (c == 35) = false) (h : tokenAt (c :: r) = some t) :
    scanF (f + 1) (c :: r) k = pre [⟨t.1, t.2.1, k⟩] (scanF f ((c :: r).drop t.2.2) (k + t.2.2)) := by
  unfold scanF; rw [gap_else h1 h2, List.drop_zero, run_some h]; rfl

theorem scan_nil (f k : Nat) : scanF f [] k = .ok [] := by simp [scanF, run_nil]

theorem tokenAt_other {c : UInt8} {r : List UInt8} (h1 : (c == 61) = false) (h2 : (c == 124) = false) (h3 : (c == 59) = false) (h4 : (c == 39) = false) (h5 : lt c = false) : tokenAt (c :: r) = none := by
  rw [tokenAt, if_neg (by simp [h1]), if_neg (by simp [h2]), if_neg (by simp [h3]), if_neg (by simp [h4])]
  apply if_neg
  intro h
  simp only [isName, Bool.and_eq_true] at h
  cases hm : mr c
  · rw [List.takeWhile_cons_of_neg (by simp [hm])] at h
    exact absurd h.1.2 (by decide)
  · rw [List.takeWhile_cons_of_pos hm] at h
    have : lt c = true := h.1.2
    rw [h5] at this; cases this

theorem tokenAt_letter {c : UInt8} {r : List UInt8} (h1 : (c == 61) = false) (h2 : (c == 124) = false) (h3 : (c == 59) = false) (h4 : (c == 39) = false) :
    tokenAt (c :: r) = if isName ((c :: r).takeWhile mr) = true then some (1, (c :: r).takeWhile mr, ((c :: r).takeWhile mr).length) else none := by
  rw [tokenAt, if_neg (by simp [h1]), if_neg (by simp [h2]), if_neg (by simp [h3]), if_neg (by simp [h4])]

end Go.Proofs.Ytnphfhoknnnciaa.Lx
