/-
  What searches share (layers 6, 7 ..): answers in memory, a channel of what is still to be looked at; slices.Contains of integers; the statements' own comparing of answers; rows of integers that come in.
-/
import Derived.Test.YtdocbgfpnaiijaaNlMath
import Derived.Test.YtdocbgfpnaiijaaGrSmall
import Derived.Test.YtdocbgfpnaiijaaChLib
import Derived.Test.YtdocbgfpnaiijaaOwnLib2
import Derived.Test.YtdocbgfpnaiijaaGrRules
import Derived.Test.YtdocbgfpnaiijaaGrGood6
import Derived.Test.YtdocbgfpnaiijaaGrOpen
import Derived.Deep.DeepCutAuto
import Derived.OpenShut
namespace Go.Proofs.Ytdocbgfpnaiijaa
open Go.RowKit Go.Conc

/-- answers in memory -/
def BoolsAt (N : Nat) (w : World) (ao : Option Addr) (bs : List Bool) : Prop := CellsAt N w ao (bs.map .bool)

theorem BoolsAt.get {N : Nat} {w : World} {ao : Option Addr} {bs : List Bool} (h : BoolsAt N w ao bs) (i : Nat) (hi : i < bs.length) :
    ∃ b o, ao = some ⟨b, o, none⟩ ∧ b < N ∧ b < w.heap.size ∧ w.cell? ⟨b, o + i, none⟩ = some (.bool bs[i]) := by
  obtain ⟨b, o, e, h1, h2, c⟩ := h i (by simpa using hi)
  exact ⟨b, o, e, h1, h2, by rw [c, List.getElem_map]⟩

theorem BoolsAt.later {N : Nat} {w w' : World} {ao : Option Addr} {bs : List Bool} (h : BoolsAt N w ao bs) (hb : Below N w w') : BoolsAt N w' ao bs := CellsAt.later h hb

theorem BoolsAt.size {N : Nat} {w : World} {ao : Option Addr} {bs : List Bool} (h : BoolsAt N w ao bs) : BoolsAt w.heap.size w ao bs := CellsAt.size h

theorem BoolsAt.next {w w' : World} {ao : Option Addr} {bs : List Bool} (h : BoolsAt w.heap.size w ao bs) (hb : Below w.heap.size w w') : BoolsAt w'.heap.size w' ao bs := (h.later hb).size

theorem allIn_drop (bs : List Bool) (xs : List Int) (q : Nat) (h : q < xs.length) : Nl.allIn bs (xs.drop q) = (Nl.isAt bs xs[q] && Nl.allIn bs (xs.drop (q + 1))) := by
  rw [List.drop_eq_getElem_cons h]; rfl

/-- all blocks that there were stand, but two -/
structure But (I C : Nat) (w w' : World) : Prop where
  os : w'.os = w.os
  tape : w'.tape = w.tape
  output : w'.output = w.output
  size : w.heap.size ≤ w'.heap.size
  block : ∀ k, k < w.heap.size → k ≠ I → k ≠ C → w'.heap[k]? = w.heap[k]?

theorem But.refl (I C : Nat) (w : World) : But I C w w := ⟨rfl, rfl, rfl, Nat.le_refl _, fun _ _ _ _ => rfl⟩

theorem But.trans {I C : Nat} {w w' w'' : World} (h : But I C w w') (h' : But I C w' w'') : But I C w w'' :=
  ⟨h'.os.trans h.os, h'.tape.trans h.tape, h'.output.trans h.output, Nat.le_trans h.size h'.size, fun k hk hi hc => (h'.block k (Nat.lt_of_lt_of_le hk h.size) hi hc).trans (h.block k hk hi hc)⟩

theorem But.of {I C : Nat} {w w' : World} (h : Below w.heap.size w w') : But I C w w' := ⟨h.os, h.tape, h.output, h.size, fun k hk _ _ => h.block k hk⟩

theorem But.below {I C B : Nat} {w w' : World} (h : But I C w w') (hI : B ≤ I) (hC : B ≤ C) (hB : B ≤ w.heap.size) : Below B w w' :=
  ⟨h.os, h.tape, h.output, h.size, fun k hk => h.block k (by omega) (by omega) (by omega)⟩

theorem But.setCell {I C : Nat} {w w' : World} (h : But I C w w') (u : Nat) (v : Value) : But I C w (w'.setCell ⟨I, u, none⟩ v) :=
  ⟨h.os, h.tape, h.output, by rw [size_setCell]; exact h.size, fun k hk hi hc => (Below.heap_setCell _ _ _ _ hi).trans (h.block k hk hi hc)⟩

theorem But.setChan {I C : Nat} {w w' : World} (h : But I C w w') (cap : Nat) (buf : Array Value) (cl : Bool) (s r : Nat) (tm : Bool) : But I C w (w'.setChan C cap buf cl s r tm) :=
  ⟨h.os, h.tape, h.output, by rw [size_setChan]; exact h.size, fun k hk hi hc => by
    rw [← h.block k hk hi hc]
    simp only [World.setChan]
    rw [Array.getElem?_setIfInBounds_ne (Ne.symm hc)]⟩

/-- the search in memory -/
structure SAt (I C cap : Nat) (st : Nl.St) (w : World) : Prop where
  is : w.heap[I]? = some (.cells (st.is.map Value.bool).toArray 4 (0, 0))
  ch : ∃ s r, w.heap[C]? = some (.chan cap (st.q.map (Value.int .i64)).toArray false s r false)

theorem SAt.lt {I C cap : Nat} {st : Nl.St} {w : World} (h : SAt I C cap st w) : I < w.heap.size ∧ C < w.heap.size := by
  obtain ⟨s, r, hc⟩ := h.ch
  exact ⟨(Array.getElem?_eq_some_iff.1 h.is).1, (Array.getElem?_eq_some_iff.1 hc).1⟩

theorem SAt.ne {I C cap : Nat} {st : Nl.St} {w : World} (h : SAt I C cap st w) : I ≠ C := by
  obtain ⟨s, r, hc⟩ := h.ch
  intro e
  subst e
  rw [h.is] at hc
  cases hc

theorem SAt.later {I C cap : Nat} {st : Nl.St} {w w' : World} (h : SAt I C cap st w) (hb : Below w.heap.size w w') : SAt I C cap st w' := by
  obtain ⟨s, r, hc⟩ := h.ch
  exact ⟨(hb.block _ h.lt.1).trans h.is, s, r, (hb.block _ h.lt.2).trans hc⟩

theorem SAt.cell {I C cap : Nat} {st : Nl.St} {w : World} (h : SAt I C cap st w) (k : Nat) (hk : k < st.is.length) : w.cell? ⟨I, k, none⟩ = some (.bool st.is[k]) ∧ w.frozen? ⟨I, k, none⟩ = false := by
  constructor
  · simp [World.cell?, h.is, hk]
  · simp [World.frozen?, h.is]

theorem SAt.bools {I C cap : Nat} {st : Nl.St} {w : World} (h : SAt I C cap st w) : BoolsAt w.heap.size w (some ⟨I, 0, none⟩) st.is := by
  intro i hi
  have hi' : i < st.is.length := by simpa using hi
  refine ⟨I, 0, rfl, h.lt.1, h.lt.1, ?_⟩
  rw [Nat.zero_add, (h.cell i hi').1, List.getElem_map]

theorem SAt.tell {I C cap : Nat} {st : Nl.St} {w : World} (h : SAt I C cap st w) (k : Nat) : SAt I C cap ⟨Nl.tell st.is k, st.q⟩ (w.setCell ⟨I, k, none⟩ (.bool true)) := by
  obtain ⟨s, r, hc⟩ := h.ch
  refine ⟨?_, s, r, (Below.heap_setCell _ _ _ _ (Ne.symm h.ne)).trans hc⟩
  simp [World.setCell, Array.getElem?_modify, h.is, Nl.tell, List.map_set]

theorem SAt.send {I C cap : Nat} {st : Nl.St} {w : World} (h : SAt I C cap st w) (x : Int) (s r : Nat) : SAt I C cap ⟨st.is, st.q ++ [x]⟩ (w.setChan C cap ((st.q.map (Value.int .i64)).toArray.push (.int .i64 x)) false s r false) := by
  refine ⟨?_, s, r, ?_⟩
  · simp only [World.setChan]; rw [Array.getElem?_setIfInBounds_ne (Ne.symm h.ne)]; exact h.is
  · rw [heap_setChan _ _ _ _ _ _ _ _ h.lt.2]; simp

theorem SAt.take {I C cap : Nat} {b : List Bool} {x : Int} {q : List Int} {w : World} (h : SAt I C cap ⟨b, x :: q⟩ w) (s r : Nat) :
    SAt I C cap ⟨b, q⟩ (w.setChan C cap (((x :: q).map (Value.int .i64)).toArray.extract 1 ((x :: q).map (Value.int .i64)).toArray.size) false s r false) := by
  refine ⟨?_, s, r, ?_⟩
  · simp only [World.setChan]; rw [Array.getElem?_setIfInBounds_ne (Ne.symm h.ne)]; exact h.is
  · rw [heap_setChan _ _ _ _ _ _ _ _ h.lt.2]
    have : (((x :: q).map (Value.int .i64)).toArray.extract 1 ((x :: q).map (Value.int .i64)).toArray.size) = (q.map (Value.int .i64)).toArray := by
      apply Array.toList_inj.1; simp [List.take_of_length_le]
    rw [this]

set_option maxHeartbeats 800000 in
theorem indexInt_any (xs : List Int) (hl : xs.length ≤ 4000) (ao : Option Addr) (c : Nat) (x : Int) (w : World) (h : IntsAt w.heap.size w ao xs) :
    Calls Try.prog 101 #[.slice ao xs.length c, .int .i64 x] w fun e w' => e = .returned (.int .i64 (Gr.pos x xs)) ∧ w' = w := by
  have HC : Hid _ := h.get
  clear h
  go_enter Try.func101, Try.ntmps101
  go_wp2
  go_loop [8] (fun i => ∃ q : Nat, q ≤ xs.length ∧ i = .int .i64 q ∧ Hid (Gr.pos x xs = if Gr.pos x (xs.drop q) = -1 then -1 else q + Gr.pos x (xs.drop q))) (fun i => xs.length - (intOf i).toNat)
  case atStart => exact ⟨0, Nat.zero_le _, rfl, by show _ = _; rw [List.drop_zero]; split <;> omega⟩
  case round =>
    obtain ⟨q, hq, rfl, hE⟩ := hrel
    by_cases hlt : q < xs.length
    · have HD : Hid (xs.drop q = xs[q] :: xs.drop (q + 1)) := List.drop_eq_getElem_cons hlt
      obtain ⟨b, o, rfl, hb, _, c0⟩ := HC.out q hlt
      have P := hE.out
      rw [HD.out] at P
      generalize xs[q] = y at *
      rw [Gr.pos] at P
      by_cases e : x = y
      · rw [if_pos e] at P
        have R : Hid (Gr.pos x xs = q) := by show _ = _; rw [P]; simp
        clear P HD hE HC
        subst e
        go_wp2
        go_ret
        exact ⟨ret_int R.out.symm, rfl⟩
      · rw [if_neg e] at P
        have hk : (x == y) = false := by simp [e]
        have R : Hid (Gr.pos x xs = if Gr.pos x (xs.drop (q + 1)) = -1 then -1 else ((q + 1 : Nat) : Int) + Gr.pos x (xs.drop (q + 1))) := by
          show _ = _
          have := (Gr.pos_has x (xs.drop (q + 1))).1
          rw [P]
          generalize Gr.pos x (xs.drop (q + 1)) = y at this ⊢
          by_cases h : y = -1
          · subst h; simp
          · rw [if_neg h, if_neg h, if_neg (by omega)]; omega
        clear P HD hE
        go_wp2
        go_round
        case rel => exact ⟨q + 1, by omega, by go_num, R⟩
        case measure => simp [intOf]; omega
    · have R : Hid (Gr.pos x xs = -1) := by show _ = _; rw [hE.out, List.drop_of_length_le (by omega)]; simp [Gr.pos]
      clear hE
      go_wp2
      go_ret
      exact ⟨ret_int R.out.symm, rfl⟩

set_option maxHeartbeats 800000 in
theorem containsInt_is (b : Bool) (xs : List Int) (hl : xs.length ≤ 4000) (ao : Option Addr) (c : Nat) (x : Int) (w : World) (h : IntsAt w.heap.size w ao xs) (hb : decide (x ∈ xs) = b) :
    Calls Try.prog 80 #[.slice ao xs.length c, .int .i64 x] w fun e w' => e = .returned (.bool b) ∧ w' = w := by
  have R : Hid (decide (0 ≤ Gr.pos x xs) = b) := (Gr.pos_has x xs).2.1.trans hb
  have IX : Hid (∀ _ : Unit, _) := fun _ => indexInt_any xs hl ao c x w h
  clear h hb
  go_enter Try.func80, Try.ntmps80
  go_wp2_with (go_at_call 101; refine (IX.out ()).mono ?_; rintro e w1 ⟨rfl, rfl⟩)
  go_ret
  exact ⟨ret_bool R.out, rfl⟩

theorem Try.infoBl6 : (Try.prog.info? 4).map (fun i => (i.zero, i.size, i.bytes)) = some (some (.bool false), 1, 1) := by kernel_rfl

theorem made_bools6 (n : Nat) : madeCells (Value.bool false).cells n = (List.replicate n (Value.bool false)).toArray := by
  apply Array.ext'
  rw [List.toList_toArray]
  apply List.ext_getElem?
  intro i
  unfold madeCells
  rw [List.getElem?_replicate]
  by_cases h : i < n
  · simp [h, Value.cells, Nat.mod_one]
  · simp [h]

/-- so many answers, none told -/
theorem make_bools6 (a b : Nat) (h : a + b ≤ 4000) (W : World) : (Instr.makeSlice 28 (.int .i64 ((a : Int) + (b : Int))) (.int .i64 ((a : Int) + (b : Int)))).run Try.prog W = .ok (.slice (some ⟨W.heap.size, 0, none⟩) (a + b) (a + b)) (W.alloc (.cells (Array.replicate (a + b) (Value.bool false)) 4)) := by
  obtain ⟨iA, hi, hz0, hz1, hz2⟩ := info_parts Try.infoBl6
  have := run_makeSlice (P := Try.prog) W 28 4 iA (.bool false) Try.underlying28 hi hz0 .i64 .i64 ((a : Int) + (b : Int)) ((a : Int) + (b : Int)) (by omega) (Int.le_refl _) (by rw [hz1]; omega) (by rw [hz2]; omega) (by omega)
  rw [this, hz1, made_bools6, show ((a : Int) + (b : Int)).toNat = a + b from by omega, Nat.mul_one, List.toArray_replicate]

theorem make_chan6 (n : Nat) (h : n ≤ 4000) (W : World) : (Instr.makeChan 84 (.int .i64 (n : Int))).run Try.prog W = .ok (.chan (some W.heap.size)) (W.alloc (.chan n #[] false 0 0 false)) := by
  obtain ⟨iA, hi, hz0, hz1, hz2⟩ := info_parts Try.infoIn
  exact run_makeChan (P := Try.prog) (w := W) Try.underlying84 hi .i64 n (by omega) (by rw [hz2]; omega)

theorem gset5 {w : World} {b : Nat} {p q r s t x y z u v : Value} {ty : TypeId} (h : w.heap[b]? = some (.cells #[p, q, r, s, t] ty (0, 0))) : (((((w.setCell ⟨b, 0, none⟩ x).setCell ⟨b, 1, none⟩ y).setCell ⟨b, 2, none⟩ z).setCell ⟨b, 3, none⟩ u).setCell ⟨b, 4, none⟩ v).heap[b]? = some (.cells #[x, y, z, u, v] ty (0, 0)) := by
  simp [World.setCell, Array.getElem?_modify, h]

theorem cells_five_z {w : World} {b : Nat} {x y z u v : Value} {t : TypeId} (h : w.heap[b]? = some (.cells #[x, y, z, u, v] t (0, 0))) :
    (w.cell? ⟨b, 0, none⟩ = some x ∧ w.cell? ⟨b, 1, none⟩ = some y ∧ w.cell? ⟨b, 2, none⟩ = some z ∧ w.cell? ⟨b, 3, none⟩ = some u ∧ w.cell? ⟨b, 4, none⟩ = some v) ∧ w.frozen? ⟨b, 0, none⟩ = false ∧ w.frozen? ⟨b, 1, none⟩ = false ∧ w.frozen? ⟨b, 2, none⟩ = false ∧ w.frozen? ⟨b, 3, none⟩ = false ∧ w.frozen? ⟨b, 4, none⟩ = false := by
  simp [World.cell?, World.frozen?, h]

theorem Nl.fit_of {g : Gr.Gm} (h : Gr.good g = true) : Nl.Fit g.terms.length (g.terms.length + g.names.length) g.rules := by
  obtain ⟨_, _, _, h4, _⟩ := Gr.good_parts h
  have key : ∀ r ∈ g.rules, Gr.fits g r = true := fun r hr => by
    obtain ⟨k, hk, rfl⟩ := List.getElem_of_mem hr
    exact (Gr.each_get h4 k hk).1
  refine ⟨fun r hr => ?_, fun r hr s hs => ?_⟩
  · have := key r hr
    simp only [Gr.fits, Gr.isN, Bool.and_eq_true, decide_eq_true_eq] at this
    have := this.1.1
    omega
  · have := key r hr
    simp only [Gr.fits, Bool.and_eq_true, List.all_eq_true, Bool.or_eq_true, Gr.isT, Gr.isN, decide_eq_true_eq] at this
    have := this.2 s hs
    omega

theorem Nl.sizes_of {g : Gr.Gm} (h : Gr.good g = true) : (1 ≤ g.names.length ∧ g.names.length ≤ 40 ∧ g.terms.length ≤ 40 ∧ 1 ≤ g.rules.length ∧ g.rules.length ≤ 60) ∧ ∀ r ∈ g.rules, r.2.length ≤ 8 := by
  obtain ⟨h1, _, _, h4, _⟩ := Gr.good_parts h
  exact ⟨of_decide_eq_true h1, fits_right h4⟩

/-- what is read of the search's memory -/
def stOf (I C : Nat) (w : World) : Nl.St :=
  ⟨match w.heap[I]? with
    | some (.cells a _ _) => a.toList.map fun v => match v with | .bool b => b | _ => false
    | _ => [],
   match w.heap[C]? with
    | some (.chan _ buf _ _ _ _) => buf.toList.map fun v => match v with | .int _ x => x | _ => 0
    | _ => []⟩

theorem SAt.read {I C cap : Nat} {st : Nl.St} {w : World} (h : SAt I C cap st w) : stOf I C w = st := by
  obtain ⟨s, r, hc⟩ := h.ch
  unfold stOf
  rw [h.is, hc]
  obtain ⟨b, q⟩ := st
  simp only [List.map_map]
  congr 1
  · rw [show ((fun v => match v with | Value.bool b => b | _ => false) ∘ Value.bool) = id from rfl, List.map_id]
  · rw [show ((fun v => match v with | Value.int _ x => x | _ => 0) ∘ Value.int .i64) = id from rfl, List.map_id]

theorem bools_new (w : World) (bs : List Bool) (t : TypeId) : BoolsAt (w.alloc (.cells (bs.map Value.bool).toArray t)).heap.size (w.alloc (.cells (bs.map Value.bool).toArray t)) (some ⟨w.heap.size, 0, none⟩) bs := by
  intro i hi
  have hi' : i < bs.length := by simpa using hi
  have hb : (w.alloc (.cells (bs.map Value.bool).toArray t)).heap[w.heap.size]? = some (.cells (bs.map Value.bool).toArray t) := heap_alloc_new w _
  refine ⟨w.heap.size, 0, rfl, by simp, by simp, ?_⟩
  unfold World.cell?
  simp only [hb]
  simp [hi']

theorem ints_new (w : World) (xs : List Int) (t : TypeId) : IntsAt (w.alloc (.cells (xs.map (Value.int .i64)).toArray t)).heap.size (w.alloc (.cells (xs.map (Value.int .i64)).toArray t)) (some ⟨w.heap.size, 0, none⟩) xs := by
  intro i hi
  have hi' : i < xs.length := by simpa using hi
  have hb : (w.alloc (.cells (xs.map (Value.int .i64)).toArray t)).heap[w.heap.size]? = some (.cells (xs.map (Value.int .i64)).toArray t) := heap_alloc_new w _
  refine ⟨w.heap.size, 0, rfl, by simp, by simp, ?_⟩
  unfold World.cell?
  simp only [hb]
  simp [hi']

/-- a slice of integers that came in: nil, or a row of 'cap' cells, the numbers 'zs' -/
def IsRow (k : IntKind) (w : World) (a : Option Addr) (len cap : Nat) (zs : List Int) : Prop :=
  (a = none ∧ len = 0 ∧ cap = 0 ∧ zs = []) ∨
  ∃ x, a = some x ∧ len ≤ cap ∧ cap ≤ maxLen ∧ zs.length = cap ∧ (∀ i, i < zs.length → w.cell? (x.add i) = some (.int k (zs.getD i 0))) ∧ ∀ n ∈ zs, (Lit.int k n).wf = true

/-- the numbers of a row that came in -/
def KindAt (k : IntKind) (N : Nat) (w : World) (ao : Option Addr) (xs : List Int) : Prop := CellsAt N w ao (xs.map (.int k))

theorem IsRow.read {k : IntKind} {w : World} {a : Option Addr} {len cap : Nat} {zs : List Int} (h : IsRow k w a len cap zs) :
    ∃ xs : List Int, len = xs.length ∧ KindAt k w.heap.size w a xs ∧ xs.length ≤ maxLen ∧ ∀ x ∈ xs, (Lit.int k x).wf = true := by
  rcases h with ⟨rfl, rfl, rfl, rfl⟩ | ⟨x, rfl, h1, h2, h3, h4, h5⟩
  · exact ⟨[], rfl, CellsAt.nil, by simp, fun x hx => by simp at hx⟩
  · have hl : (zs.take len).length = len := by rw [List.length_take]; omega
    refine ⟨zs.take len, hl.symm, fun i hi => ?_, by omega, fun y hy => h5 y (List.mem_of_mem_take hy)⟩
    have hi' : i < len := by rw [List.length_map, hl] at hi; exact hi
    obtain ⟨b, o, rfl, hc⟩ := ints_at h4 (by omega)
    have hci := hc i (by omega)
    refine ⟨b, o, rfl, World.block_lt_of_cell? _ _ hci, World.block_lt_of_cell? _ _ hci, ?_⟩
    rw [hci, List.getElem_map, List.getElem_take]
    congr 2
    simp [List.getD, show i < zs.length from by omega]
end Go.Proofs.Ytdocbgfpnaiijaa
