/-
  Layer 10 (depend): marks of places: the plain mathematics; rows of answers of several lengths, of one's own; append of one.
-/
import Derived.Test.YtdocbgfpnaiijaaDpLib
import Derived.Test.YtdocbgfpnaiijaaSchRef
namespace Go.Proofs.Ytdocbgfpnaiijaa
open Go.RowKit Go.Conc
namespace Dp
open Go.Proofs.Ytdocbgfpnaiijaa.Gr (Rl)
/-- of a rule's places those that are told -/
def mrow (rs : List Rl) (wo : List (Int × Int)) (i : Nat) : List Bool := (List.range (rs.getD i (0, [])).2.length).map fun (j : Nat) => decide (((i : Int), (j : Int)) ∈ wo)
def marks (rs : List Rl) (wo : List (Int × Int)) : List (List Bool) := (List.range rs.length).map (mrow rs wo)
theorem mrow_len (rs : List Rl) (wo : List (Int × Int)) (i : Nat) : (mrow rs wo i).length = (rs.getD i (0, [])).2.length := by simp [mrow]
theorem marks_len (rs : List Rl) (wo : List (Int × Int)) : (marks rs wo).length = rs.length := by simp [marks]
theorem marks_getD {rs : List Rl} (wo : List (Int × Int)) {i : Nat} (h : i < rs.length) : (marks rs wo).getD i [] = mrow rs wo i := by
  simp [marks, List.getD_eq_getElem?_getD, h]
theorem mrow_get {rs : List Rl} {wo : List (Int × Int)} {i j : Nat} (h : j < (mrow rs wo i).length) : (mrow rs wo i)[j] = decide (((i : Int), (j : Int)) ∈ wo) := by simp [mrow]
theorem mrow_nil (rs : List Rl) (i : Nat) : mrow rs [] i = List.replicate (rs.getD i (0, [])).2.length false := by
  refine List.ext_getElem (by simp [mrow]) fun k h1 h2 => ?_
  rw [mrow_get]; simp
theorem mrow_more {rs : List Rl} {wo : List (Int × Int)} {s : Int × Int} {i : Nat} (h : ¬ (s.1 = i ∧ 0 ≤ s.2 ∧ s.2 < (rs.getD i (0, [])).2.length)) : mrow rs (wo ++ [s]) i = mrow rs wo i := by
  refine List.ext_getElem (by simp [mrow]) fun k h1 h2 => ?_
  rw [mrow_get, mrow_get]
  have hk : k < (rs.getD i (0, [])).2.length := by rw [mrow_len] at h1; exact h1
  congr 1
  rw [eq_iff_iff, List.mem_append, List.mem_singleton]
  refine ⟨fun q => q.elim id fun e => ?_, .inl⟩
  exact absurd ⟨by rw [← e], by rw [← e]; simp only; omega, by rw [← e]; simp only; omega⟩ h
theorem marks_out {rs : List Rl} {wo : List (Int × Int)} {s : Int × Int} (h : ¬ ((0 ≤ s.1 ∧ s.1 < rs.length) ∧ 0 ≤ s.2 ∧ s.2 < (rs.getD s.1.toNat (0, [])).2.length)) : marks rs (wo ++ [s]) = marks rs wo := by
  unfold marks
  refine List.map_congr_left fun i hi => mrow_more fun q => h ?_
  have hi' := List.mem_range.1 hi
  obtain ⟨e, a, b⟩ := q
  refine ⟨by omega, a, ?_⟩
  rw [e, Int.toNat_natCast]; exact b
theorem marks_in {rs : List Rl} {wo : List (Int × Int)} {i j : Nat} : marks rs (wo ++ [((i : Int), (j : Int))]) = (marks rs wo).set i ((mrow rs wo i).set j true) := by
  refine List.ext_getElem (by simp [marks]) fun k h1 h2 => ?_
  have hk : k < rs.length := by simpa [marks_len] using h1
  have e0 : ∀ (wo : List (Int × Int)) (h : k < (marks rs wo).length), (marks rs wo)[k] = mrow rs wo k := fun wo h => by simp [marks]
  rw [List.getElem_set]
  rw [e0]
  by_cases e : i = k
  · subst e
    rw [if_pos rfl]
    refine List.ext_getElem (by simp [mrow_len]) fun q g1 g2 => ?_
    rw [mrow_get, List.getElem_set]
    by_cases e2 : j = q
    · subst e2; rw [if_pos rfl]; simp
    · rw [if_neg e2, mrow_get]
      congr 1
      rw [eq_iff_iff, List.mem_append, List.mem_singleton]
      refine ⟨fun z => z.elim id fun z => ?_, .inl⟩
      have := (Prod.mk.inj z).2
      omega
  · rw [if_neg e, e0]
    exact mrow_more fun q => e (by have := q.1; simp only at this; omega)
end Dp

/-- rows of answers of several lengths, each in a block of its own, in a row of one's own -/
def rowV (b : Nat) (r : List Bool) : Value := .slice (some ⟨b, 0, none⟩) r.length r.length
structure MkAt (base : Nat) (w : World) (v : Value) (Bs : List Nat) (ms : List (List Bool)) : Prop where
  own : w.ownsRow base 28 1 v ms.length (List.zipWith rowV Bs ms)
  len : Bs.length = ms.length
  row : ∀ i (hi : i < Bs.length), w.heap[Bs[i]]? = some (.cells ((ms.getD i []).map Value.bool).toArray 4 (0, 0))
  ge : ∀ b ∈ Bs, base ≤ b
  nodup : Bs.Nodup
theorem MkAt.nil (base : Nat) (w : World) : MkAt base w (.slice none 0 0) [] [] := ⟨World.ownsRow_nil _ _ _ _, rfl, fun i hi => by simp at hi, fun b hb => by simp at hb, List.nodup_nil⟩
theorem MkAt.lt {base : Nat} {w : World} {v : Value} {Bs : List Nat} {ms : List (List Bool)} (h : MkAt base w v Bs ms) : ∀ b ∈ Bs, b < w.heap.size := fun b hb => by
  obtain ⟨i, hi, rfl⟩ := List.getElem_of_mem hb
  exact (Array.getElem?_eq_some_iff.1 (h.row i hi)).1
theorem MkAt.later {base : Nat} {w w' : World} {v : Value} {Bs : List Nat} {ms : List (List Bool)} (h : MkAt base w v Bs ms) (hb : Below w.heap.size w w') : MkAt base w' v Bs ms :=
  ⟨ownsRow_below h.own hb, h.len, fun i hi => (hb.block _ (h.lt _ (List.getElem_mem hi))).trans (h.row i hi), h.ge, h.nodup⟩
theorem MkAt.from {base base' : Nat} {w : World} {v : Value} {Bs : List Nat} {ms : List (List Bool)} (h : MkAt base w v Bs ms) (hb : base' ≤ base) : MkAt base' w v Bs ms :=
  ⟨ownsRow_from h.own hb, h.len, h.row, fun b q => Nat.le_trans hb (h.ge b q), h.nodup⟩
/-- the slice, its row's cell, a cell of it -/
theorem MkAt.read {base : Nat} {w : World} {v : Value} {Bs : List Nat} {ms : List (List Bool)} (h : MkAt base w v Bs ms) (hn : 0 < ms.length) : ∃ g cap, v = .slice (some ⟨g, 0, none⟩) ms.length cap ∧ g < w.heap.size ∧ base ≤ g ∧ g ∉ Bs ∧ ∀ i (hi : i < Bs.length), w.cell? ⟨g, i, none⟩ = some (rowV Bs[i] (ms.getD i [])) := by
  have hc := h.own
  rcases h.own.2 with ⟨rfl, h0⟩ | ⟨g, cap, cur, rfl, hg, hh, hl, hm, _⟩
  · omega
  · refine ⟨g, cap, rfl, (Array.getElem?_eq_some_iff.1 hh).1, hg, fun hb => ?_, fun i hi => ?_⟩
    · obtain ⟨i, hi, e⟩ := List.getElem_of_mem hb
      have := h.row i hi
      rw [e, hh] at this
      exact absurd (Obj.cells.inj (Option.some.inj this)).2.1 (by decide)
    · have hi' : i < ms.length := by rw [← h.len]; exact hi
      have e2 : ms.getD i [] = ms[i] := by simp [List.getD_eq_getElem?_getD, hi']
      have hz : (List.zipWith rowV Bs ms)[i]? = some (rowV Bs[i] (ms.getD i [])) := by
        rw [e2, List.getElem?_zipWith]
        simp [hi, hi']
      have := hc.cells (g := g) rfl _ _ hz
      rw [addr_zero_add] at this; exact this
theorem MkAt.cell {base : Nat} {w : World} {v : Value} {Bs : List Nat} {ms : List (List Bool)} (h : MkAt base w v Bs ms) (i j : Nat) (hi : i < Bs.length) (hj : j < (ms.getD i []).length) : w.cell? ⟨Bs[i], j, none⟩ = some (.bool (ms.getD i [])[j]) ∧ w.frozen? ⟨Bs[i], j, none⟩ = false := bools_cell (h.row i hi) j hj
/-- a place is told -/
theorem MkAt.set {base : Nat} {w : World} {v : Value} {Bs : List Nat} {ms : List (List Bool)} (h : MkAt base w v Bs ms) (i j : Nat) (hi : i < Bs.length) : MkAt base (w.setCell ⟨Bs[i], j, none⟩ (.bool true)) v Bs (ms.set i ((ms.getD i []).set j true)) := by
  have hi' : i < ms.length := by rw [← h.len]; exact hi
  have hz : List.zipWith rowV Bs (ms.set i ((ms.getD i []).set j true)) = List.zipWith rowV Bs ms := by
    refine List.ext_getElem (by simp) fun k h1 h2 => ?_
    have hk : k < ms.length := by simp at h2; omega
    simp only [List.getElem_zipWith, List.getElem_set]
    by_cases e : i = k
    · subst e
      rw [if_pos rfl]
      simp [rowV, List.getD_eq_getElem?_getD, hk]
    · rw [if_neg e]
  refine ⟨?_, by simp [h.len], fun k hk => ?_, h.ge, h.nodup⟩
  · rw [hz, List.length_set]
    refine ownsRow_setCell_other h.own (fun e => ?_) _
    exact ownsRow_ne h.own (h.row i hi) (by decide) e
  · have hk' : k < ms.length := by rw [← h.len]; exact hk
    by_cases e : k = i
    · subst e
      have := bools_set (h.row k hk) j true
      simpa [List.getD_eq_getElem?_getD, hk'] using this
    · have hne : Bs[k] ≠ Bs[i] := fun q => e ((List.getElem_inj h.nodup).1 q)
      rw [Below.heap_setCell _ _ _ _ hne, h.row k hk]
      have : ¬ i = k := fun q => e q.symm
      simp [List.getD_eq_getElem?_getD, this]
theorem Try.infoBRow : (Try.prog.info? 28).map (fun i => (i.zero, i.size, i.bytes)) = some (some (.slice none 0 0), 1, 24) := by kernel_rfl
/-- append of a row of answers that has been made -/
theorem wpList_append_brow {ops : Array Oper} {rest : List Oper} {o : Oper} {a : Act} {Q : Exit → Act → World → Prop} {w : World} (hw : Region.wanted o (yielded ops a.tmps) = true) (s x : Operand)
    (ho : o.op = .call { callee := .builtin .append, args := #[s, x], argTypes := #[37, 37] }) (base : Nat) (v : Value) (Bs : List Nat) (ms : List (List Bool)) (hs : a.eval s = v) (hown : MkAt base w v Bs ms)
    (b c B : Nat) (r : List Bool) (hx : a.eval x = .slice (some ⟨b, 0, none⟩) 1 c) (hnews : w.cell? ⟨b, 0, none⟩ = some (rowV B r)) (hB : w.heap[B]? = some (.cells (r.map Value.bool).toArray 4 (0, 0))) (hBg : base ≤ B) (hBn : B ∉ Bs)
    (hb : ms.length + 1 ≤ 2000) (hbase : base ≤ w.heap.size)
    (h : ∀ g cap w', MkAt base w' (.slice (some ⟨g, 0, none⟩) (ms.length + 1) cap) (Bs ++ [B]) (ms ++ [r]) → w.grownBy w' v.ownBlock → wpList Try.prog ops Q rest (a.put o.dst (.slice (some ⟨g, 0, none⟩) (ms.length + 1) cap)) w') : wpList Try.prog ops Q (o :: rest) a w := by
  obtain ⟨iA, hi, hz0, hz1, hz2⟩ := info_parts Try.infoBRow
  refine wpList_wanted hw fun K hK => wp_append_lies _ s x 37 ho base 28 iA _ 1 24 Try.underlying37 hi hz0 hz1 hz2 rfl (by decide) v ms.length _ hs hown.own ⟨b, 0, none⟩ 1 c [rowV B r] hx rfl ?_ (by simp [rowV, Value.oneCell']) (by decide) (by unfold maxLen; omega) (by omega) hbase _ rfl
    (fun g cap w' g2 g3 g4 _ => hK _ _ (h g cap w' ?_ g3))
  · intro j y hj
    cases j with
    | zero => simp at hj; subst hj; simpa [addr_zero_add] using hnews
    | succ j => simp at hj
  · have kp : ∀ (k : Nat) (r : List Bool), w.heap[k]? = some (.cells (r.map Value.bool).toArray 4 (0, 0)) → w'.heap[k]? = some (.cells (r.map Value.bool).toArray 4 (0, 0)) := fun k r hk =>
      (g3.block k (Array.getElem?_eq_some_iff.1 hk).1 fun e => ownsRow_ne hown.own hk (by decide) e.symm).trans hk
    refine ⟨?_, by simp [hown.len], fun i hi => ?_, fun q hq => ?_, ?_⟩
    · rw [List.length_append, List.zipWith_append hown.len]
      exact g2
    · by_cases e : i < Bs.length
      · rw [List.getElem_append_left e]
        have hi' : i < ms.length := by rw [← hown.len]; exact e
        have := kp _ _ (hown.row i e)
        rw [show (ms ++ [r]).getD i [] = ms.getD i [] from by simp [List.getD_eq_getElem?_getD, List.getElem?_append_left hi']]
        exact this
      · have hi2 : i = Bs.length := by simp at hi; omega
        subst hi2
        have e3 : (ms ++ [r]).getD Bs.length [] = r := by rw [hown.len]; simp
        have e2 : (Bs ++ [B])[Bs.length]'hi = B := by simp
        rw [e2, e3]
        exact kp _ _ hB
    · rcases List.mem_append.1 hq with hq | hq
      · exact hown.ge q hq
      · rw [List.mem_singleton] at hq; rw [hq]; exact hBg
    · rw [List.nodup_append]
      refine ⟨hown.nodup, by simp, fun a ha b hb => ?_⟩
      rw [List.mem_singleton] at hb
      intro e; rw [e, hb] at ha; exact hBn ha
end Go.Proofs.Ytdocbgfpnaiijaa
