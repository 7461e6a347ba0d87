/-
  For the document's own Of of layer 3: what holds of memory while it goes.
-/
import Derived.Test.YtnphfhoknnnciaaGrOwn
namespace Go.Proofs.Ytnphfhoknnnciaa
open Go.RowKit

theorem Gr.pos_ge {x : ByteArray} {l : List ByteArray} (h : Gr.has x l = true) : 0 ≤ Gr.pos x l := by
  obtain ⟨k, _, e, _⟩ := Gr.pos_mem (Gr.has_yes h)
  omega

theorem cells_five_z {w : World} {b : Nat} {x y z u v : Value} {t : TypeId} (h : w.heap[b]? = some (.cells #[x, y, z, u, v] t (0, 0))) :
    w.cell? ⟨b, 0, none⟩ = some x ∧ w.cell? ⟨b, 1, none⟩ = some y ∧ w.cell? ⟨b, 2, none⟩ = some z ∧ w.cell? ⟨b, 3, none⟩ = some u ∧ w.cell? ⟨b, 4, none⟩ = some v ∧
    w.frozen? ⟨b, 0, none⟩ = false ∧ w.frozen? ⟨b, 1, none⟩ = false ∧ w.frozen? ⟨b, 2, none⟩ = false ∧ w.frozen? ⟨b, 3, none⟩ = false ∧ w.frozen? ⟨b, 4, none⟩ = false := by
  simp [World.cell?, World.frozen?, h]

theorem gset0' {w : World} {b : Nat} {x y z u : Value} {t : TypeId} (h : w.heap[b]? = some (.cells #[x, y, z] t (0, 0))) : (w.setCell ⟨b, 0, none⟩ u).heap[b]? = some (.cells #[u, y, z] t (0, 0)) := by
  simp [World.setCell, Array.getElem?_modify, h]
theorem gset1' {w : World} {b : Nat} {x y z u : Value} {t : TypeId} (h : w.heap[b]? = some (.cells #[x, y, z] t (0, 0))) : (w.setCell ⟨b, 1, none⟩ u).heap[b]? = some (.cells #[x, u, z] t (0, 0)) := by
  simp [World.setCell, Array.getElem?_modify, h]
theorem gset2' {w : World} {b : Nat} {x y z u : Value} {t : TypeId} (h : w.heap[b]? = some (.cells #[x, y, z] t (0, 0))) : (w.setCell ⟨b, 2, none⟩ u).heap[b]? = some (.cells #[x, y, u] t (0, 0)) := by
  simp [World.setCell, Array.getElem?_modify, h]

theorem grown_block {w w1 : World} {base b : Nat} {e : TypeId} {z n : Nat} {v : Value} {xs : List Value} (h : w.ownsRow base e z v n xs) (hg : w.grownBy w1 v.ownBlock) (hb : b < base) (hs : b < w.heap.size) : w1.heap[b]? = w.heap[b]? :=
  hg.block b hs (fun e => by have := (h.lt _ e.symm).1; omega)

/-- while the names are gathered -/
structure RG1 (W wr : World) (vn : Value) (ns : List ByteArray) : Prop where
  below : Below W.heap.size W wr
  lt : W.heap.size < wr.heap.size
  gb : wr.heap[W.heap.size]? = some (.cells #[.slice none 0 0, vn, .slice none 0 0] 25 (0, 0))
  on : OwnStrs (W.heap.size + 1) wr vn ns

theorem RG1.later {W wr w1 : World} {vn : Value} {ns : List ByteArray} (h : RG1 W wr vn ns) (hb : Below wr.heap.size wr w1) : RG1 W w1 vn ns where
  below := h.below.trans (hb.mono h.below.size)
  lt := Nat.lt_of_lt_of_le h.lt hb.size
  gb := by rw [hb.block _ h.lt]; exact h.gb
  on := ownsRow_below h.on hb

theorem RG1.grown {W wr w1 : World} {vn : Value} {ns : List ByteArray} (h : RG1 W wr vn ns) (hg : wr.grownBy w1 vn.ownBlock) : w1.heap[W.heap.size]? = some (.cells #[.slice none 0 0, vn, .slice none 0 0] 25 (0, 0)) := by
  rw [grown_block h.on hg (Nat.lt_succ_self _) h.lt]; exact h.gb

theorem RG1.push {W wr w1 : World} {vn vn' : Value} {ns ns' : List ByteArray} (h : RG1 W wr vn ns) (hg : wr.grownBy w1 vn.ownBlock) (ho : OwnStrs (W.heap.size + 1) w1 vn' ns') : RG1 W (w1.setCell ⟨W.heap.size, 1, none⟩ vn') vn' ns' where
  below := (h.below.grown hg h.below.size (fun k hk => by have := (h.on.lt k hk).1; omega)).setCell (by exact Nat.le_refl _) _
  lt := by rw [size_setCell]; exact Nat.lt_of_lt_of_le h.lt hg.size
  gb := gset1' (h.grown hg)
  on := ownsRow_setCell_below ho (by exact Nat.lt_succ_self _) _

/-- while the quotes are gathered -/
structure RG2 (W wr : World) (B : Nat) (vt vn : Value) (ts ns : List ByteArray) : Prop where
  below : Below W.heap.size W wr
  lt : W.heap.size < B ∧ B ≤ wr.heap.size
  gb : wr.heap[W.heap.size]? = some (.cells #[vt, vn, .slice none 0 0] 25 (0, 0))
  on : OwnStrs (W.heap.size + 1) wr vn ns
  nB : ∀ k, vn.ownBlock = some k → k < B
  ot : OwnStrs B wr vt ts

theorem RG1.next {W wr : World} {vn : Value} {ns : List ByteArray} (h : RG1 W wr vn ns) : RG2 W wr wr.heap.size (.slice none 0 0) vn [] ns where
  below := h.below
  lt := ⟨h.lt, Nat.le_refl _⟩
  gb := h.gb
  on := h.on
  nB := fun k hk => (h.on.lt k hk).2
  ot := World.ownsRow_nil _ _ _ _

theorem RG2.later {W wr w1 : World} {B : Nat} {vt vn : Value} {ts ns : List ByteArray} (h : RG2 W wr B vt vn ts ns) (hb : Below wr.heap.size wr w1) : RG2 W w1 B vt vn ts ns where
  below := h.below.trans (hb.mono h.below.size)
  lt := ⟨h.lt.1, Nat.le_trans h.lt.2 hb.size⟩
  gb := by rw [hb.block _ (by have := h.lt; omega)]; exact h.gb
  on := ownsRow_below h.on hb
  nB := h.nB
  ot := ownsRow_below h.ot hb

theorem RG2.grown {W wr w1 : World} {B : Nat} {vt vn : Value} {ts ns : List ByteArray} (h : RG2 W wr B vt vn ts ns) (hg : wr.grownBy w1 vt.ownBlock) : w1.heap[W.heap.size]? = some (.cells #[vt, vn, .slice none 0 0] 25 (0, 0)) := by
  rw [grown_block h.ot hg h.lt.1 (by have := h.lt; omega)]; exact h.gb

theorem RG2.push {W wr w1 : World} {B : Nat} {vt vn vt' : Value} {ts ns ts' : List ByteArray} (h : RG2 W wr B vt vn ts ns) (hg : wr.grownBy w1 vt.ownBlock) (ho : OwnStrs B w1 vt' ts') : RG2 W (w1.setCell ⟨W.heap.size, 0, none⟩ vt') B vt' vn ts' ns where
  below := (h.below.grown hg h.below.size (fun k hk => by have := (h.ot.lt k hk).1; have := h.lt; omega)).setCell (by exact Nat.le_refl _) _
  lt := ⟨h.lt.1, by rw [size_setCell]; exact Nat.le_trans h.lt.2 hg.size⟩
  gb := gset0' (h.grown hg)
  on := by
    refine ownsRow_setCell_below (World.ownsRow.kept h.on hg ?_) (by exact Nat.lt_succ_self _) _
    cases e : vn.ownBlock with
    | none => exact .inl rfl
    | some k =>
      refine .inr fun e2 => ?_
      have := (h.ot.lt k e2.symm).1
      have := h.nB k e
      omega
  nB := h.nB
  ot := ownsRow_setCell_below ho (by exact h.lt.1) _

/-- while the rules are gathered -/
structure RG3 (W wr : World) (C : Nat) (vt vn vr : Value) (ts ns : List ByteArray) (rs : List Gr.Rl) : Prop where
  below : Below W.heap.size W wr
  lt : W.heap.size < C ∧ C ≤ wr.heap.size
  gb : wr.heap[W.heap.size]? = some (.cells #[vt, vn, vr] 25 (0, 0))
  on : OwnStrs (W.heap.size + 1) wr vn ns
  ot : OwnStrs (W.heap.size + 1) wr vt ts
  or : OwnRls C wr vr rs

theorem RG2.next {W wr : World} {B : Nat} {vt vn : Value} {ts ns : List ByteArray} (h : RG2 W wr B vt vn ts ns) : RG3 W wr wr.heap.size vt vn (.slice none 0 0) ts ns [] where
  below := h.below
  lt := ⟨by have := h.lt; omega, Nat.le_refl _⟩
  gb := h.gb
  on := h.on
  ot := ownsRow_from h.ot h.lt.1
  or := OwnRls.nil _ _

theorem RG3.later {W wr w1 : World} {C : Nat} {vt vn vr : Value} {ts ns : List ByteArray} {rs : List Gr.Rl} (h : RG3 W wr C vt vn vr ts ns rs) (hb : Below wr.heap.size wr w1) : RG3 W w1 C vt vn vr ts ns rs where
  below := h.below.trans (hb.mono h.below.size)
  lt := ⟨h.lt.1, Nat.le_trans h.lt.2 hb.size⟩
  gb := by rw [hb.block _ (by have := h.lt; omega)]; exact h.gb
  on := ownsRow_below h.on hb
  ot := ownsRow_below h.ot hb
  or := h.or.below hb

theorem RG3.grown {W wr w1 : World} {C : Nat} {vt vn vr : Value} {ts ns : List ByteArray} {rs : List Gr.Rl} (h : RG3 W wr C vt vn vr ts ns rs) (hg : wr.grownBy w1 vr.ownBlock) : w1.heap[W.heap.size]? = some (.cells #[vt, vn, vr] 25 (0, 0)) := by
  obtain ⟨ps, _, ho, _⟩ := h.or
  rw [grown_block ho hg h.lt.1 (by have := h.lt; omega)]; exact h.gb

theorem RG3.push {W wr w1 : World} {C : Nat} {vt vn vr vr' : Value} {ts ns : List ByteArray} {rs rs' : List Gr.Rl} (h : RG3 W wr C vt vn vr ts ns rs) (hg : wr.grownBy w1 vr.ownBlock) (ho : OwnRls C w1 vr' rs') : RG3 W (w1.setCell ⟨W.heap.size, 2, none⟩ vr') C vt vn vr' ts ns rs' where
  below := (h.below.grown hg h.below.size (fun k hk => by have := h.or.lt k hk; have := h.lt; omega)).setCell (by exact Nat.le_refl _) _
  lt := ⟨h.lt.1, by rw [size_setCell]; exact Nat.le_trans h.lt.2 hg.size⟩
  gb := gset2' (h.grown hg)
  on := by
    obtain ⟨ps, _, hr, _⟩ := h.or
    exact ownsRow_setCell_below (World.ownsRow.kept h.on hg (row_apart h.on hr (by decide))) (by exact Nat.lt_succ_self _) _
  ot := by
    obtain ⟨ps, _, hr, _⟩ := h.or
    exact ownsRow_setCell_below (World.ownsRow.kept h.ot hg (row_apart h.ot hr (by decide))) (by exact Nat.lt_succ_self _) _
  or := ho.setCell (by exact h.lt.1) _

/-- a rule's own variable while its right side grows: all that there was ahead of it; its block; the row -/
structure RX (V wr : World) (X : Nat) (l : Int) (v : Value) (done : List Int) : Prop where
  below : Below V.heap.size V wr
  lt : V.heap.size ≤ X ∧ X < wr.heap.size
  xb : wr.heap[X]? = some (.cells #[.int .i64 l, v] 54 (0, 0))
  own : OwnInts (X + 1) wr v done

theorem RX.later {V wr w1 : World} {X : Nat} {l : Int} {v : Value} {done : List Int} (h : RX V wr X l v done) (hb : Below wr.heap.size wr w1) : RX V w1 X l v done where
  below := h.below.trans (hb.mono h.below.size)
  lt := ⟨h.lt.1, Nat.lt_of_lt_of_le h.lt.2 hb.size⟩
  xb := by rw [hb.block _ h.lt.2]; exact h.xb
  own := ownsRow_below h.own hb

theorem RX.grown {V wr w1 : World} {X : Nat} {l : Int} {v : Value} {done : List Int} (h : RX V wr X l v done) (hg : wr.grownBy w1 v.ownBlock) : w1.heap[X]? = some (.cells #[.int .i64 l, v] 54 (0, 0)) := by
  rw [grown_block h.own hg (Nat.lt_succ_self _) h.lt.2]; exact h.xb

theorem RX.push {V wr w1 : World} {X : Nat} {l : Int} {v v' : Value} {done done' : List Int} (h : RX V wr X l v done) (hg : wr.grownBy w1 v.ownBlock) (ho : OwnInts (X + 1) w1 v' done') : RX V (w1.setCell ⟨X, 1, none⟩ v') X l v' done' where
  below := (h.below.grown hg h.below.size (fun k hk => by have := (h.own.lt k hk).1; have := h.lt; omega)).setCell (by exact h.lt.1) _
  lt := ⟨h.lt.1, by rw [size_setCell]; exact Nat.lt_of_lt_of_le h.lt.2 hg.size⟩
  xb := by simp [World.setCell, Array.getElem?_modify, h.grown hg]
  own := ownsRow_setCell_below ho (by exact Nat.lt_succ_self _) _

/-- what the document's Of comes to -/
def ROPost (l : List UInt8) (w : World) (e : Ending) (w' : World) : Prop :=
  Below w.heap.size w w' ∧ ∃ A, e = .returned (.agg #[.slice A.ta (ofS l).2.2.terms.length A.tc, .slice A.na (ofS l).2.2.names.length A.nc, .slice A.ra (ofS l).2.2.rules.length A.rc, .int .i64 (ofS l).1, .int .i64 (ofS l).2.1]) ∧ GmOwn w.heap.size w' (ofS l).2.2 A
end Go.Proofs.Ytnphfhoknnnciaa
