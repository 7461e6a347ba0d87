/-
  What searches over rows of answers share (layers 8, 9 ..): rows of answers in memory, each in a block of its own; a channel of pairs; all blocks stand but those of a list.
-/
import Derived.Test.YtdocbgfpnaiijaaSchLib
import Derived.Test.YtdocbgfpnaiijaaFiMath
namespace Go.Proofs.Ytdocbgfpnaiijaa
open Go.RowKit Go.Conc

/-- all blocks that there were stand, but those of a list -/
structure ButL (l : List Nat) (w w' : World) : Prop where
  os : w'.os = w.os
  tape : w'.tape = w.tape
  output : w'.output = w.output
  size : w.heap.size ≤ w'.heap.size
  block : ∀ k, k < w.heap.size → k ∉ l → w'.heap[k]? = w.heap[k]?

theorem ButL.refl (l : List Nat) (w : World) : ButL l w w := ⟨rfl, rfl, rfl, Nat.le_refl _, fun _ _ _ => rfl⟩
theorem ButL.trans {l : List Nat} {w w' w'' : World} (h : ButL l w w') (h' : ButL l w' w'') : ButL l w w'' :=
  ⟨h'.os.trans h.os, h'.tape.trans h.tape, h'.output.trans h.output, Nat.le_trans h.size h'.size, fun k hk hl => (h'.block k (Nat.lt_of_lt_of_le hk h.size) hl).trans (h.block k hk hl)⟩
theorem ButL.of {l : List Nat} {w w' : World} (h : Below w.heap.size w w') : ButL l w w' := ⟨h.os, h.tape, h.output, h.size, fun k hk _ => h.block k hk⟩
theorem ButL.below {l : List Nat} {B : Nat} {w w' : World} (h : ButL l w w') (hl : ∀ k ∈ l, B ≤ k) (hB : B ≤ w.heap.size) : Below B w w' :=
  ⟨h.os, h.tape, h.output, h.size, fun k hk => h.block k (by omega) fun q => by have := hl k q; omega⟩
theorem ButL.setCell {l : List Nat} {w w' : World} (h : ButL l w w') {b : Nat} (hb : b ∈ l) (u : Nat) (v : Value) : ButL l w (w'.setCell ⟨b, u, none⟩ v) :=
  ⟨h.os, h.tape, h.output, by rw [size_setCell]; exact h.size, fun k hk hl => (Below.heap_setCell _ _ _ _ (fun e => hl (by rw [e]; exact hb))).trans (h.block k hk hl)⟩
theorem ButL.setChan {l : List Nat} {w w' : World} (h : ButL l w w') {c : Nat} (hc : c ∈ l) (cap : Nat) (buf : Array Value) (cl : Bool) (s r : Nat) (tm : Bool) : ButL l w (w'.setChan c cap buf cl s r tm) :=
  ⟨h.os, h.tape, h.output, by rw [size_setChan]; exact h.size, fun k hk hl => by
    rw [← h.block k hk hl]
    simp only [World.setChan]
    rw [Array.getElem?_setIfInBounds_ne (fun e => hl (by rw [← e]; exact hc))]⟩

theorem ButL.grown {l : List Nat} {w w1 w2 : World} {row : Option Nat} (h : ButL l w w1) (hg : w1.grownBy w2 row) (hr : ∀ k, row = some k → w.heap.size ≤ k) : ButL l w w2 :=
  ⟨hg.os.trans h.os, hg.tape.trans h.tape, hg.output.trans h.output, Nat.le_trans h.size hg.size, fun k hk hl => (hg.block k (Nat.lt_of_lt_of_le hk h.size) (fun e => by have := hr k e.symm; omega)).trans (h.block k hk hl)⟩
theorem ButL.more {l l' : List Nat} {w w' : World} (h : ButL l w w') (hl : ∀ k ∈ l, k ∈ l') : ButL l' w w' := ⟨h.os, h.tape, h.output, h.size, fun k hk hn => h.block k hk fun q => hn (hl k q)⟩
/-- answers stand where their block does -/
theorem BoolsAt.keep {N : Nat} {w w' : World} {ao : Option Addr} {bs : List Bool} (h : BoolsAt N w ao bs) (hs : w.heap.size ≤ w'.heap.size) (hk : ∀ k o y, k < N → w.cell? ⟨k, o, none⟩ = some (.bool y) → w'.heap[k]? = w.heap[k]?) : BoolsAt N w' ao bs := by
  intro i hi
  have hi' : i < bs.length := by simpa using hi
  obtain ⟨b, o, e, h1, h2, c⟩ := BoolsAt.get h i hi'
  refine ⟨b, o, e, h1, Nat.lt_of_lt_of_le h2 hs, ?_⟩
  rw [List.getElem_map, ← c]
  exact World.cell?_of_block (hk b (o + i) _ h1 c)
theorem cell_in {w : World} {b o : Nat} {cs : Array Value} {t : TypeId} {fr : Nat × Nat} {v : Value} (h : w.heap[b]? = some (.cells cs t fr)) (hc : w.cell? ⟨b, o, none⟩ = some v) : v ∈ cs := by
  simp [World.cell?, h] at hc
  exact Array.mem_of_getElem? hc
theorem cell_chan {w : World} {b o : Nat} {cap s r : Nat} {buf : Array Value} {cl tm : Bool} {v : Value} (h : w.heap[b]? = some (.chan cap buf cl s r tm)) (hc : w.cell? ⟨b, o, none⟩ = some v) : False := by
  simp [World.cell?, h] at hc

/-- rows of answers in memory, each in a block of its own -/
structure RowsAt (S T : Nat) (Bs : List Nat) (ss : List (List Bool)) (w : World) : Prop where
  sb : w.heap[S]? = some (.cells (Bs.map fun b => Value.slice (some ⟨b, 0, none⟩) T T).toArray 28 (0, 0))
  len : Bs.length = ss.length
  row : ∀ i (hi : i < Bs.length), w.heap[Bs[i]]? = some (.cells ((ss.getD i []).map Value.bool).toArray 4 (0, 0))
  each : ∀ r ∈ ss, r.length = T
  nodup : Bs.Nodup

theorem RowsAt.lt {S T : Nat} {Bs : List Nat} {ss : List (List Bool)} {w : World} (h : RowsAt S T Bs ss w) : S < w.heap.size ∧ ∀ b ∈ Bs, b < w.heap.size := by
  refine ⟨(Array.getElem?_eq_some_iff.1 h.sb).1, fun b hb => ?_⟩
  obtain ⟨i, hi, rfl⟩ := List.getElem_of_mem hb
  exact (Array.getElem?_eq_some_iff.1 (h.row i hi)).1
theorem RowsAt.ne {S T : Nat} {Bs : List Nat} {ss : List (List Bool)} {w : World} (h : RowsAt S T Bs ss w) : S ∉ Bs := fun hb => by
  obtain ⟨i, hi, e⟩ := List.getElem_of_mem hb
  have := h.row i hi
  rw [e, h.sb] at this
  exact absurd (Obj.cells.inj (Option.some.inj this)).2.1 (by decide)
theorem RowsAt.chan_ne {S T C : Nat} {Bs : List Nat} {ss : List (List Bool)} {w : World} (h : RowsAt S T Bs ss w) {cap s r : Nat} {buf : Array Value} {cl tm : Bool} (hc : w.heap[C]? = some (.chan cap buf cl s r tm)) : S ≠ C ∧ C ∉ Bs := by
  refine ⟨fun e => ?_, fun hb => ?_⟩
  · subst e; rw [h.sb] at hc; cases hc
  · obtain ⟨i, hi, e⟩ := List.getElem_of_mem hb
    have := h.row i hi
    rw [e, hc] at this
    cases this
theorem RowsAt.keep {S T : Nat} {Bs : List Nat} {ss : List (List Bool)} {w w' : World} (h : RowsAt S T Bs ss w) (hS : w'.heap[S]? = w.heap[S]?) (hb : ∀ b ∈ Bs, w'.heap[b]? = w.heap[b]?) : RowsAt S T Bs ss w' :=
  ⟨hS.trans h.sb, h.len, fun i hi => (hb _ (List.getElem_mem hi)).trans (h.row i hi), h.each, h.nodup⟩
theorem RowsAt.later {S T : Nat} {Bs : List Nat} {ss : List (List Bool)} {w w' : World} (h : RowsAt S T Bs ss w) (hb : Below w.heap.size w w') : RowsAt S T Bs ss w' :=
  h.keep (hb.block _ h.lt.1) fun b q => hb.block _ (h.lt.2 b q)
theorem RowsAt.butL {S T : Nat} {Bs : List Nat} {ss : List (List Bool)} {w w' : World} {l : List Nat} (h : RowsAt S T Bs ss w) (hb : ButL l w w') (hS : S ∉ l) (hB : ∀ b ∈ Bs, b ∉ l) : RowsAt S T Bs ss w' :=
  h.keep (hb.block _ h.lt.1 hS) fun b q => hb.block _ (h.lt.2 b q) (hB b q)
theorem RowsAt.shape {S T : Nat} {Bs : List Nat} {ss : List (List Bool)} {w : World} (h : RowsAt S T Bs ss w) : Fi.Shape ss.length T ss := ⟨rfl, h.each⟩
/-- where a symbol's row lies -/
theorem RowsAt.head {S T : Nat} {Bs : List Nat} {ss : List (List Bool)} {w : World} (h : RowsAt S T Bs ss w) (k : Nat) (hk : k < Bs.length) : w.cell? ⟨S, k, none⟩ = some (.slice (some ⟨Bs[k], 0, none⟩) T T) := by
  simp [World.cell?, h.sb, hk]
/-- an answer -/
theorem RowsAt.cell {S T : Nat} {Bs : List Nat} {ss : List (List Bool)} {w : World} (h : RowsAt S T Bs ss w) (k t : Nat) (hk : k < Bs.length) (ht : t < T) : w.cell? ⟨Bs[k], t, none⟩ = some (.bool (Fi.has ss k t)) ∧ w.frozen? ⟨Bs[k], t, none⟩ = false := by
  have hks : k < ss.length := by rw [← h.len]; exact hk
  obtain ⟨_, e, hl⟩ := h.shape.row (s := (k : Int)) (by omega) (by omega)
  have e2 : ss.getD k [] = Fi.row ss (k : Int) := by simp [Fi.row]
  have hr := h.row k hk
  rw [e2] at hr
  have hl' : t < (Fi.row ss (k : Int)).length := by rw [hl]; exact ht
  refine ⟨?_, by simp [World.frozen?, hr]⟩
  have : Fi.has ss k t = (Fi.row ss (k : Int))[t] := by
    simp only [Fi.has]
    rw [Nl.isAt_get (by omega) (by simpa using hl')]
    simp
  rw [this]
  simp [World.cell?, hr, hl']
theorem RowsAt.bools {S T : Nat} {Bs : List Nat} {ss : List (List Bool)} {w : World} (h : RowsAt S T Bs ss w) (k : Nat) (hk : k < Bs.length) : BoolsAt w.heap.size w (some ⟨Bs[k], 0, none⟩) (ss.getD k []) := by
  have hr := h.row k hk
  have hlt := (Array.getElem?_eq_some_iff.1 hr).1
  intro i hi
  have hi' : i < (ss.getD k []).length := by simpa using hi
  refine ⟨Bs[k], 0, rfl, hlt, hlt, ?_⟩
  have hl : i < (List.map Value.bool (ss.getD k [])).length := hi
  simp only [World.cell?, hr, Nat.zero_add]
  rw [List.getElem?_toArray, List.getElem?_eq_getElem hl]
  exact if_neg (by simp)
theorem RowsAt.put {S T : Nat} {Bs : List Nat} {ss : List (List Bool)} {w : World} (h : RowsAt S T Bs ss w) (k t : Nat) (hk : k < Bs.length) : RowsAt S T Bs (Fi.put ss k t) (w.setCell ⟨Bs[k], t, none⟩ (.bool true)) := by
  have hks : k < ss.length := by rw [← h.len]; exact hk
  have hS : S ≠ Bs[k] := fun e => h.ne (by rw [e]; exact List.getElem_mem hk)
  refine ⟨(Below.heap_setCell _ _ _ _ hS).trans h.sb, by simp [Fi.put, h.len], fun i hi => ?_, fun r hr => ?_, h.nodup⟩
  · by_cases e : i = k
    · subst e
      have hr := h.row i hi
      have e2 : (Fi.put ss (i : Int) (t : Int)).getD i [] = Nl.tell (ss.getD i []) (t : Int) := by
        simp [Fi.put, Fi.row, hks]
      rw [e2]
      simp [World.setCell, Array.getElem?_modify, hr, Nl.tell, List.map_set]
    · have hne : Bs[i] ≠ Bs[k] := fun q => e ((List.getElem_inj h.nodup).1 q)
      rw [Below.heap_setCell _ _ _ _ hne, h.row i hi]
      have e2 : (Fi.put ss (k : Int) (t : Int)).getD i [] = ss.getD i [] := by
        have hki : ¬ k = i := fun q => e q.symm
        simp [Fi.put, hki]
      rw [e2]
  · exact (h.shape.put (s := (k : Int)) (t := (t : Int)) (by omega) (by omega)).each r hr

/-- a pair, as a channel holds it -/
def gainV (p : Int × Int) : Value := .agg #[.int .i64 p.1, .int .i64 p.2]
/-- the search in memory -/
structure GAt (S C T cap : Nat) (Bs : List Nat) (st : Fi.St) (w : World) : Prop where
  rs : RowsAt S T Bs st.ss w
  ch : ∃ s r, w.heap[C]? = some (.chan cap (st.q.map gainV).toArray false s r false)

theorem GAt.ne {S C T cap : Nat} {Bs : List Nat} {st : Fi.St} {w : World} (h : GAt S C T cap Bs st w) : S ≠ C ∧ C ∉ Bs ∧ S ∉ Bs := by
  obtain ⟨s, r, hc⟩ := h.ch
  exact ⟨(h.rs.chan_ne hc).1, (h.rs.chan_ne hc).2, h.rs.ne⟩
theorem GAt.lt {S C T cap : Nat} {Bs : List Nat} {st : Fi.St} {w : World} (h : GAt S C T cap Bs st w) : S < w.heap.size ∧ C < w.heap.size ∧ ∀ b ∈ Bs, b < w.heap.size := by
  obtain ⟨s, r, hc⟩ := h.ch
  exact ⟨h.rs.lt.1, (Array.getElem?_eq_some_iff.1 hc).1, h.rs.lt.2⟩
theorem GAt.keep {S C T cap : Nat} {Bs : List Nat} {st : Fi.St} {w w' : World} (h : GAt S C T cap Bs st w) (hS : w'.heap[S]? = w.heap[S]?) (hC : w'.heap[C]? = w.heap[C]?) (hb : ∀ b ∈ Bs, w'.heap[b]? = w.heap[b]?) : GAt S C T cap Bs st w' := by
  obtain ⟨s, r, hc⟩ := h.ch
  exact ⟨h.rs.keep hS hb, s, r, hC.trans hc⟩
theorem GAt.later {S C T cap : Nat} {Bs : List Nat} {st : Fi.St} {w w' : World} (h : GAt S C T cap Bs st w) (hb : Below w.heap.size w w') : GAt S C T cap Bs st w' :=
  h.keep (hb.block _ h.lt.1) (hb.block _ h.lt.2.1) fun b q => hb.block _ (h.lt.2.2 b q)
theorem GAt.tell {S C T cap : Nat} {Bs : List Nat} {st : Fi.St} {w : World} (h : GAt S C T cap Bs st w) (k t : Nat) (hk : k < Bs.length) : GAt S C T cap Bs ⟨Fi.put st.ss k t, st.q⟩ (w.setCell ⟨Bs[k], t, none⟩ (.bool true)) := by
  obtain ⟨s, r, hc⟩ := h.ch
  exact ⟨h.rs.put k t hk, s, r, (Below.heap_setCell _ _ _ _ (fun e => h.ne.2.1 (by rw [e]; exact List.getElem_mem hk))).trans hc⟩
theorem heap_setChan_ne (w : World) {c k : Nat} (cap : Nat) (buf : Array Value) (cl : Bool) (s r : Nat) (tm : Bool) (h : k ≠ c) : (w.setChan c cap buf cl s r tm).heap[k]? = w.heap[k]? := by
  simp only [World.setChan]
  rw [Array.getElem?_setIfInBounds_ne (Ne.symm h)]
theorem GAt.send {S C T cap : Nat} {Bs : List Nat} {st : Fi.St} {w : World} (h : GAt S C T cap Bs st w) (p : Int × Int) (s r : Nat) : GAt S C T cap Bs ⟨st.ss, st.q ++ [p]⟩ (w.setChan C cap ((st.q.map gainV).toArray.push (gainV p)) false s r false) := by
  refine ⟨h.rs.keep (heap_setChan_ne _ _ _ _ _ _ _ h.ne.1) fun b hb => heap_setChan_ne _ _ _ _ _ _ _ (fun e => h.ne.2.1 (by rw [← e]; exact hb)), s, r, ?_⟩
  rw [heap_setChan _ _ _ _ _ _ _ _ h.lt.2.1]; simp
theorem GAt.take {S C T cap : Nat} {Bs : List Nat} {ss : List (List Bool)} {p : Int × Int} {q : List (Int × Int)} {w : World} (h : GAt S C T cap Bs ⟨ss, p :: q⟩ w) (s r : Nat) :
    GAt S C T cap Bs ⟨ss, q⟩ (w.setChan C cap (((p :: q).map gainV).toArray.extract 1 ((p :: q).map gainV).toArray.size) false s r false) := by
  refine ⟨h.rs.keep (heap_setChan_ne _ _ _ _ _ _ _ h.ne.1) fun b hb => heap_setChan_ne _ _ _ _ _ _ _ (fun e => h.ne.2.1 (by rw [← e]; exact hb)), s, r, ?_⟩
  rw [heap_setChan _ _ _ _ _ _ _ _ h.lt.2.1]
  have : (((p :: q).map gainV).toArray.extract 1 ((p :: q).map gainV).toArray.size) = (q.map gainV).toArray := by
    apply Array.toList_inj.1; simp [List.take_of_length_le]
  rw [this]

/-- what is read of rows of answers in memory -/
def boolsOf (w : World) (b : Nat) : List Bool := match w.heap[b]? with
  | some (.cells a _ _) => a.toList.map fun v => match v with | .bool b => b | _ => false
  | _ => []
def rowsOf (S : Nat) (w : World) : List (List Bool) := match w.heap[S]? with
  | some (.cells a _ _) => a.toList.map fun v => match v with | .slice (some x) _ _ => boolsOf w x.block | _ => []
  | _ => []
def numOf (v : Value) : Int := match v with | .int _ x => x | _ => 0
def pairOf (v : Value) : Int × Int := match v with | .agg a => (numOf (a.getD 0 undef), numOf (a.getD 1 undef)) | _ => (0, 0)
def queueOf (C : Nat) (w : World) : List (Int × Int) := match w.heap[C]? with
  | some (.chan _ buf _ _ _ _) => buf.toList.map pairOf
  | _ => []
theorem RowsAt.read {S T : Nat} {Bs : List Nat} {ss : List (List Bool)} {w : World} (h : RowsAt S T Bs ss w) : rowsOf S w = ss := by
  unfold rowsOf
  rw [h.sb]
  simp only [List.map_map]
  refine List.ext_getElem (by simp [h.len]) fun i h1 h2 => ?_
  have hi : i < Bs.length := by simpa using h1
  have hr := h.row i hi
  simp only [List.getElem_map, Function.comp_apply]
  unfold boolsOf
  rw [hr]
  simp only [List.map_map]
  rw [show ((fun v => match v with | Value.bool b => b | _ => false) ∘ Value.bool) = id from rfl, List.map_id]
  simp [h2]
def gstOf (S C : Nat) (w : World) : Fi.St := ⟨rowsOf S w, queueOf C w⟩
theorem GAt.read {S C T cap : Nat} {Bs : List Nat} {st : Fi.St} {w : World} (h : GAt S C T cap Bs st w) : gstOf S C w = st := by
  obtain ⟨s, r, hc⟩ := h.ch
  obtain ⟨ss, q⟩ := st
  unfold gstOf
  rw [h.rs.read]
  congr 1
  unfold queueOf
  rw [hc]
  simp only [List.map_map]
  rw [show (pairOf ∘ gainV) = id from rfl, List.map_id]
end Go.Proofs.Ytdocbgfpnaiijaa
