/-
  slices.Sort and slices.Compact of a row of numbers of one's own; append of a row of numbers onto another.
-/
import Derived.Test.YtdocbgfpnaiijaaGreatRowsLib
import Derived.Test.YtdocbgfpnaiijaaGreatShelfS
namespace Go.Proofs.YtdocbgfpnaiijaaGreat
open Go.RowKit Go.Conc Go.Sort

theorem putRow_other (w : World) (blk off : Nat) (d : Array Int) (k : Nat) (h : k ≠ blk) : (putRow (Value.int .i64) w blk off d).heap[k]? = w.heap[k]? := by
  simp only [putRow, mapBlock]
  rw [Array.getElem?_modify, if_neg (Ne.symm h)]
theorem butL_put (w : World) (n blk off : Nat) (d : Array Int) : ButL [blk] w (putRow (Value.int .i64) (Sort.ahead w n) blk off d) :=
  ⟨rfl, rfl, rfl, by simp, fun k _ hn => by rw [putRow_other _ _ _ _ _ (by simpa using hn)]; rfl⟩
theorem butL_grow (w w1 : World) (l : List Nat) (os : Array Obj) (h : ButL l w w1) : ButL l w (grow w1 os) :=
  ⟨h.os, h.tape, h.output, by rw [size_grow]; have := h.size; omega, fun k hk hn => (heap_grow_old w1 os (Nat.lt_of_lt_of_le hk h.size)).trans (h.block k hk hn)⟩
theorem OwnInts.holds {M g n cap : Nat} {w : World} {xs : List Int} (h : OwnInts M w (.slice (some ⟨g, 0, none⟩) n cap) xs) : Holds (Value.int .i64) w g 0 xs.toArray := by
  intro j hj
  have hj' : j < xs.length := by simpa using hj
  have h1 := World.ownsRow.cells h (g := g) rfl j (.int .i64 xs[j]) (by simp [hj'])
  rw [addr_zero_add] at h1
  have hr : (xs.toArray)[j]! = xs[j] := by rw [getElem!_pos xs.toArray j hj]; simp
  rw [hr, Nat.zero_add]
  refine ⟨h1, ?_⟩
  rcases h.2 with ⟨e, _⟩ | ⟨g', cap', cur, e, _, hg, _⟩
  · cases e
  · have : g = g' := by
      simp only [Value.slice.injEq, Option.some.injEq, Addr.mk.injEq] at e
      exact e.1.1
    subst this
    simp [World.frozen?, hg]
theorem holds_ints {w : World} {blk : Nat} {xs ys : List Int} (h : Holds (Value.int .i64) w blk 0 (xs ++ ys).toArray) : IntsAt w.heap.size w (some ⟨blk, 0, none⟩) xs := by
  intro i hi
  have hi' : i < xs.length := by simpa using hi
  have h1 := (h i (by simp; omega)).1
  have hr : ((xs ++ ys).toArray)[i]! = xs[i] := by rw [getElem!_pos (xs ++ ys).toArray i (by simp; omega)]; simp [hi']
  rw [hr] at h1
  have hlt := World.block_lt_of_cell? _ _ h1
  exact ⟨blk, 0, rfl, hlt, hlt, by rw [h1, List.getElem_map]⟩

set_option maxHeartbeats 800000 in
/-- sorted -/
theorem sort_any (xs : List Int) (M : Nat) (ao : Option Addr) (c : Nat) (w : World) (h : OwnInts M w (.slice ao xs.length c) xs) (hl : xs.length ≤ 100000) :
    Calls Tryz.prog 63 #[.slice ao xs.length c] w fun e w' => e = .returned (.tuple #[]) ∧ (∀ k, (Value.slice ao xs.length c).ownBlock = some k → ButL [k] w w') ∧ ((Value.slice ao xs.length c).ownBlock = none → w' = w) ∧ (∀ k, (Value.slice ao xs.length c).ownBlock = some k → Holds (Value.int .i64) w' k 0 (xs.mergeSort fun x y => decide (x ≤ y)).toArray) := by
  obtain ⟨ao2, c2, e, _⟩ := OwnInts.read h
  rcases h.2 with ⟨e, h0⟩ | ⟨g, cap, cur, e, _, hg, _⟩
  · obtain ⟨rfl, hn⟩ : ao = none ∧ xs.length = 0 := by
      simp only [Value.slice.injEq] at e
      exact ⟨e.1, e.2.1⟩
    obtain rfl : xs = [] := List.eq_nil_of_length_eq_zero hn
    refine Calls.mono (Tryz.slices_Sort_int_none none c w) ?_
    rintro e w' ⟨rfl, rfl⟩
    exact ⟨rfl, fun k hk => (by cases hk), fun _ => rfl, fun k hk => (by cases hk)⟩
  · obtain ⟨rfl, rfl⟩ : ao = some ⟨g, 0, none⟩ ∧ c = cap := by
      simp only [Value.slice.injEq] at e
      exact ⟨e.1, e.2.2⟩
    have hgl := (Array.getElem?_eq_some_iff.1 hg).1
    refine Calls.mono (Tryz.slices_Sort_int g 0 c xs w (OwnInts.holds h) hgl (by omega)) ?_
    rintro e w' ⟨rfl, n, os, rfl⟩
    refine ⟨rfl, fun k hk => ?_, fun hk => (by cases hk), fun k hk => ?_⟩
    · obtain rfl : g = k := by simpa [Value.ownBlock] using hk
      exact butL_grow _ _ _ _ (butL_put w n g 0 _)
    · obtain rfl : g = k := by simpa [Value.ownBlock] using hk
      refine holds_grow _ _ _ _ _ _ (by simpa using hgl) ?_
      exact holds_putRow _ _ _ _ _ _ (holds_ahead _ _ _ _ _ _ (OwnInts.holds h)) (by simp)

/-- made compact -/
theorem compact_any (ys : List Int) (ao : Option Addr) (c : Nat) (w : World) (hc : ys.length ≤ c) (hl : ys.length ≤ 100000) (h : ys = [] ∨ ∃ g, ao = some ⟨g, 0, none⟩ ∧ Holds (Value.int .i64) w g 0 ys.toArray) :
    Calls Tryz.prog 64 #[.slice ao ys.length c] w fun e w' => e = .returned (.slice ao (Lib.compact ys).length c) ∧ IntsAt w'.heap.size w' ao (Lib.compact ys) ∧ (∀ k, (Value.slice ao ys.length c).ownBlock = some k → ButL [k] w w') ∧ ((Value.slice ao ys.length c).ownBlock = none → w' = w) := by
  by_cases h0 : ys = []
  · subst h0
    refine Calls.mono (Tryz.slices_Compact_int_empty ao c w) ?_
    rintro e w' ⟨rfl, rfl⟩
    have e0 : Lib.compact ([] : List Int) = [] := rfl
    exact ⟨by rw [e0]; rfl, by rw [e0]; exact IntsAt.nil, fun k _ => ButL.refl _ _, fun _ => rfl⟩
  · obtain ⟨g, rfl, hH⟩ := h.resolve_left h0
    refine Calls.mono (Tryz.slices_Compact_int g 0 c ys w hH (by omega) hc) ?_
    rintro e w' ⟨rfl, q, rfl⟩
    have hle : (Lib.compact ys).length ≤ ys.length := by
      unfold Lib.compact Lib.compactUpTo
      rw [List.length_map]
      exact Nat.le_trans (List.length_filter_le _ _) (by simp)
    refine ⟨rfl, ?_, fun k hk => ?_, fun hk => (by cases hk)⟩
    · refine holds_ints (ys := List.replicate (ys.length - (Lib.compact ys).length) 0) ?_
      refine holds_putRow _ _ _ _ _ _ (holds_ahead _ _ _ _ _ _ hH) ?_
      simp; omega
    · obtain rfl : g = k := by simpa [Value.ownBlock] using hk
      exact butL_put w q g 0 _

/-- append of a row of numbers, whoever's, nil too, onto a row of one's own -/
theorem wpList_append_ints {ops : Array Oper} {rest : List Oper} {o : Oper} {a : Act} {Q : Exit → Act → World → Prop} {w : World} (hw : Region.wanted o (yielded ops a.tmps) = true) (s x : Operand) (ho : o.op = .call { callee := .builtin .append, args := #[s, x], argTypes := #[31, 31] })
    (base : Nat) (v : Value) (xs : List Int) (hs : a.eval s = v) (hown : OwnInts base w v xs) (ao : Option Addr) (c : Nat) (ys : List Int) (hx : a.eval x = .slice ao ys.length c) (hS : IntsAt w.heap.size w ao ys) (hl : xs.length + ys.length ≤ 8000) (hbase : base ≤ w.heap.size)
    (h : ∀ xo xc w', OwnInts base w' (.slice xo (xs ++ ys).length xc) (xs ++ ys) → w.grownBy w' v.ownBlock → wpList Tryz.prog ops Q rest (a.put o.dst (.slice xo (xs ++ ys).length xc)) w') : wpList Tryz.prog ops Q (o :: rest) a w := by
  refine wpList_wanted hw fun K hK => ?_
  have fin : ∀ v' w', OwnInts base w' v' (xs ++ ys) → w.grownBy w' v.ownBlock → K (a.put o.dst v') w' := fun v' w' h1 h2 => by
    obtain ⟨xo, xc, rfl, _⟩ := OwnInts.read h1
    exact hK _ _ (h xo xc w' h1 h2)
  obtain ⟨iA, hi, hz0, hz1, hz2⟩ := info_parts Tryz.infoIn
  cases ao with
  | none =>
    have e : ys = [] := by
      cases ys with
      | nil => rfl
      | cons y r => obtain ⟨b, o, h, _⟩ := hS 0 (by simp); cases h
    subst e
    obtain ⟨so, sc, rfl, _, hle, _⟩ := OwnInts.read hown
    have hsrc : Src Tryz.prog iA.size 31 (.slice none 0 c) 0 [] w := Src.ofNil w Tryz.underlying31 c
    have hr := run_append_nothing (P := Tryz.prog) w 31 31 o.type 3 iA Tryz.underlying31 hi so xs.length sc hle (.slice none 0 c) hsrc
    unfold Oper.wp execOp
    simp only [ho, resolve, invoke, builtin, Sem.run_bind, Sem.run_pure, Result.andThen_ok, List.map_toArray, List.map_cons, List.map_nil, hs, hx, List.length_nil, hr]
    refine fin _ _ ?_ ⟨rfl, rfl, rfl, Nat.le_refl _, fun _ _ _ => rfl⟩
    rw [List.append_nil]; exact hown
  | some ad =>
    refine wp_append_own w s x 31 ho base 3 iA _ 1 8 Tryz.underlying31 hi hz0 hz1 hz2 rfl (by decide) v xs.length (xs.map (.int .i64)) hs hown ad ys.length c (ys.map (.int .i64)) hx (by simp) ?_ (fun u hu => by obtain ⟨y, _, rfl⟩ := List.mem_map.1 hu; rfl) (by unfold maxLen; omega) (by omega) hbase (fun v' w' h2 h3 _ => fin v' w' ?_ h3)
    · intro j u hj
      have hl := (List.getElem?_eq_some_iff.1 hj).1
      obtain ⟨b, o, e, _, _, hc⟩ := hS j hl
      cases e
      rw [addr_off_add, hc]
      rw [List.getElem?_eq_getElem hl] at hj
      exact hj
    · unfold OwnInts; rw [List.length_append, List.map_append]; exact h2
end Go.Proofs.YtdocbgfpnaiijaaGreat
