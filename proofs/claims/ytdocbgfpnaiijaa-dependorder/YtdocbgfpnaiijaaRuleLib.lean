/-
  A rule that is made in a loop, and laid behind a grammar's rules (the laws of 'one rule more', layers 6, 7 ..).
-/
import Derived.Test.YtdocbgfpnaiijaaGrOwn
import Derived.Test.YtdocbgfpnaiijaaSchLib
namespace Go.Proofs.Ytdocbgfpnaiijaa
open Go.RowKit Go.Conc

theorem any_take {α : Type} (f : α → Bool) (l : List α) (q : Nat) (h : q < l.length) : (l.take (q + 1)).any f = ((l.take q).any f || f l[q]) := by
  rw [List.take_add_one, List.getElem?_eq_getElem h, List.any_append]
  simp
/-- what holds of memory while the rule is made: W6 stands; x's block, its right side's row -/
structure DInv (W6 wr : World) (b : Nat) (x : Int) (v : Value) (done : List Int) : Prop where
  below : Below W6.heap.size W6 wr
  lt : W6.heap.size ≤ b ∧ b < wr.heap.size
  xb : wr.heap[b]? = some (.cells #[.int .i64 x, v] 31 (0, 0))
  ov : OwnInts W6.heap.size wr v done

theorem DInv.later {W6 wr w' : World} {b : Nat} {x : Int} {v : Value} {done : List Int} (h : DInv W6 wr b x v done) (hb : Below wr.heap.size wr w') : DInv W6 w' b x v done :=
  ⟨h.below.trans (hb.mono h.below.size), ⟨h.lt.1, Nat.lt_of_lt_of_le h.lt.2 hb.size⟩, (hb.block _ h.lt.2).trans h.xb, ownsRow_below h.ov hb⟩
theorem DInv.ne {W6 wr : World} {b : Nat} {x : Int} {v : Value} {done : List Int} (h : DInv W6 wr b x v done) : v.ownBlock ≠ some b := own_ne h.ov h.xb (by decide)
theorem rset {w : World} {b : Nat} {x y z : Value} {t : TypeId} (h : w.heap[b]? = some (.cells #[x, y] t (0, 0))) : (w.setCell ⟨b, 1, none⟩ z).heap[b]? = some (.cells #[x, z] t (0, 0)) := by
  simp [World.setCell, Array.getElem?_modify, h]
theorem rset2 {w : World} {b : Nat} {x y z u : Value} {t : TypeId} (h : w.heap[b]? = some (.cells #[x, y] t (0, 0))) : ((w.setCell ⟨b, 0, none⟩ z).setCell ⟨b, 1, none⟩ u).heap[b]? = some (.cells #[z, u] t (0, 0)) := by
  simp [World.setCell, Array.getElem?_modify, h]
theorem DInv.push {W6 wr w1 : World} {b : Nat} {x : Int} {v v' : Value} {done done' : List Int} (h : DInv W6 wr b x v done) (hg : wr.grownBy w1 v.ownBlock) (ho : OwnInts W6.heap.size w1 v' done') : DInv W6 (w1.setCell ⟨b, 1, none⟩ v') b x v' done' := by
  have hb : w1.heap[b]? = some (.cells #[.int .i64 x, v] 31 (0, 0)) := (hg.block b h.lt.2 (fun e => h.ne e.symm)).trans h.xb
  refine ⟨?_, ⟨h.lt.1, ?_⟩, rset hb, ownsRow_setCell_other ho (own_ne ho hb (by decide)) _⟩
  · exact (h.below.grown hg h.below.size (fun q hq => (World.ownsRow.lt h.ov q hq).1)).setCell (by exact h.lt.1) _
  · rw [size_setCell]; exact Nat.lt_of_lt_of_le h.lt.2 hg.size

theorem rules_push {N B ga cap : Nat} {wv w8 : World} {g : Gr.Gm} {A : GA} {x : Gr.Rl} {cs : Array Value} (ho : GmOwn N wv g A) (hB : wv.heap[B]? = some (.cells cs 25 (0, 0))) (hg : wv.grownBy w8 (Value.slice A.ra g.rules.length A.rc).ownBlock)
    (hr : OwnRls N w8 (.slice (some ⟨ga, 0, none⟩) (g.rules.length + 1) cap) (g.rules ++ [x])) (u : Value) :
    w8.heap[B]? = some (.cells cs 25 (0, 0)) ∧ GmOwn N (w8.setCell ⟨B, 2, none⟩ u) ⟨g.terms, g.names, g.rules ++ [x]⟩ ⟨A.ta, A.tc, A.na, A.nc, some ⟨ga, 0, none⟩, cap⟩ := by
  have hb8 : w8.heap[B]? = some (.cells cs 25 (0, 0)) := (hg.block B (Array.getElem?_eq_some_iff.1 hB).1 (fun e => own_rls_ne ho.rules hB (by decide) e.symm)).trans hB
  obtain ⟨ps, _, hps, _⟩ := ho.rules
  refine ⟨hb8, ⟨?_, ?_, ?_, ho.ttext, ho.ntext⟩⟩
  · have h2 := World.ownsRow.kept ho.terms hg (row_apart ho.terms hps (by decide))
    exact ownsRow_setCell_other h2 (own_ne h2 hb8 (by decide)) _
  · have h2 := World.ownsRow.kept ho.names hg (row_apart ho.names hps (by decide))
    exact ownsRow_setCell_other h2 (own_ne h2 hb8 (by decide)) _
  · obtain ⟨qs, e1, e2, e3⟩ := hr
    simp only [List.length_append, List.length_singleton]
    exact ⟨qs, e1, ownsRow_setCell_other e2 (own_ne e2 hb8 (by decide)) _, fun p hp => ownsRow_setCell_other (e3 p hp) (own_ne (e3 p hp) hb8 (by decide)) _⟩
theorem u8_lt {x : Int} (h : (Lit.int .u8 x).wf = true) : 0 ≤ x ∧ x < 256 := by
  have h0 : decide (IntKind.u8.min ≤ x) && decide (x ≤ IntKind.u8.max) := h
  rw [Bool.and_eq_true, decide_eq_true_eq, decide_eq_true_eq, show IntKind.u8.min = 0 from rfl, show IntKind.u8.max = 255 from rfl] at h0
  omega
/-- a cell of answers, and what is told there -/
theorem BoolsAt.cellAt {w : World} {ao : Option Addr} {bs : List Bool} (h : BoolsAt w.heap.size w ao bs) (k : Nat) (hk : k < bs.length) : ∃ b o, ao = some ⟨b, o, none⟩ ∧ w.cell? ⟨b, o + k, none⟩ = some (.bool (Nl.isAt bs (k : Int))) := by
  obtain ⟨b, o, e, _, _, c⟩ := h.get k hk
  refine ⟨b, o, e, ?_⟩
  rw [c, Nl.isAt_get (by omega) (by simpa using hk)]
  simp
end Go.Proofs.Ytdocbgfpnaiijaa
