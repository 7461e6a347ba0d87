/-
  What the documents' own searches share (layers 6, 7 ..): answers in memory that grow, round by round.
-/
import Derived.Test.YtdocbgfpnaiijaaSchLib
namespace Go.Proofs.Ytdocbgfpnaiijaa
open Go.RowKit Go.Conc

/-- what holds of memory while the document's Of goes -/
structure ROInv (w wr : World) (X : Nat) (g : Gr.Gm) (A : GA) (bs : List Bool) : Prop where
  below : Below w.heap.size w wr
  lt : w.heap.size < X
  gb : wr.heap[w.heap.size]? = some (.cells #[.slice A.ta g.terms.length A.tc, .slice A.na g.names.length A.nc, .slice A.ra g.rules.length A.rc] 25 (0, 0))
  xb : wr.heap[X]? = some (.cells (bs.map Value.bool).toArray 4 (0, 0))

theorem ROInv.bools {w wr : World} {X : Nat} {g : Gr.Gm} {A : GA} {bs : List Bool} (h : ROInv w wr X g A bs) : BoolsAt wr.heap.size wr (some ⟨X, 0, none⟩) bs := by
  have hlt := (Array.getElem?_eq_some_iff.1 h.xb).1
  intro i hi
  have hi' : i < bs.length := by simpa using hi
  refine ⟨X, 0, rfl, hlt, hlt, ?_⟩
  simp [World.cell?, h.xb, hi']
theorem ROInv.set {w wr : World} {X : Nat} {g : Gr.Gm} {A : GA} {bs : List Bool} (h : ROInv w wr X g A bs) (k : Nat) : ROInv w (wr.setCell ⟨X, k, none⟩ (.bool true)) X g A (Nl.tell bs k) := by
  have hl := h.lt
  have hne : w.heap.size ≠ X := by omega
  refine ⟨h.below.setCell (by show w.heap.size ≤ X; omega) _, h.lt, (Below.heap_setCell _ _ _ _ hne).trans h.gb, ?_⟩
  simp [World.setCell, Array.getElem?_modify, h.xb, Nl.tell, List.map_set]
theorem ROInv.setb {w wr : World} {X : Nat} {g : Gr.Gm} {A : GA} {bs : List Bool} (h : ROInv w wr X g A bs) (k : Nat) (b : Bool) : ROInv w (wr.setCell ⟨X, k, none⟩ (.bool b)) X g A (bs.set k b) := by
  have hl := h.lt
  have hne : w.heap.size ≠ X := by omega
  refine ⟨h.below.setCell (by show w.heap.size ≤ X; omega) _, h.lt, (Below.heap_setCell _ _ _ _ hne).trans h.gb, ?_⟩
  simp [World.setCell, Array.getElem?_modify, h.xb, List.map_set]
theorem ROInv.cell {w wr : World} {X : Nat} {g : Gr.Gm} {A : GA} {bs : List Bool} (h : ROInv w wr X g A bs) (k : Nat) (hk : k < bs.length) : wr.cell? ⟨X, k, none⟩ = some (.bool bs[k]) ∧ wr.frozen? ⟨X, k, none⟩ = false := by
  constructor
  · simp [World.cell?, h.xb, hk]
  · simp [World.frozen?, h.xb]

theorem pass_step (rs : List Gr.Rl) (b : List Bool) (k : Nat) (h : k < rs.length) : (rs.take (k + 1)).foldl Nl.by1 b = Nl.by1 ((rs.take k).foldl Nl.by1 b) rs[k] := Gr.take_step _ _ _ _ h
theorem pass_len (rs : List Gr.Rl) (b : List Bool) : (rs.foldl Nl.by1 b).length = b.length := (Nl.pass_le rs b).1.symm
theorem bools_block {w : World} {X : Nat} {bs : List Bool} (h : w.heap[X]? = some (.cells (bs.map Value.bool).toArray 4 (0, 0))) : BoolsAt w.heap.size w (some ⟨X, 0, none⟩) bs := by
  have hlt := (Array.getElem?_eq_some_iff.1 h).1
  intro i hi
  have hi' : i < bs.length := by simpa using hi
  refine ⟨X, 0, rfl, hlt, hlt, ?_⟩
  simp [World.cell?, h, hi']
theorem bools_set {w : World} {X : Nat} {bs : List Bool} (h : w.heap[X]? = some (.cells (bs.map Value.bool).toArray 4 (0, 0))) (k : Nat) (b : Bool) : (w.setCell ⟨X, k, none⟩ (.bool b)).heap[X]? = some (.cells ((bs.set k b).map Value.bool).toArray 4 (0, 0)) := by
  simp [World.setCell, Array.getElem?_modify, h, List.map_set]
theorem bools_cell {w : World} {X : Nat} {bs : List Bool} (h : w.heap[X]? = some (.cells (bs.map Value.bool).toArray 4 (0, 0))) (k : Nat) (hk : k < bs.length) : w.cell? ⟨X, k, none⟩ = some (.bool bs[k]) ∧ w.frozen? ⟨X, k, none⟩ = false := by
  constructor
  · simp [World.cell?, h, hk]
  · simp [World.frozen?, h]
end Go.Proofs.Ytdocbgfpnaiijaa
