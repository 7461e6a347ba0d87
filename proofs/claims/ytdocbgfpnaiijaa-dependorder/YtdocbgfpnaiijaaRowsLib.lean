/-
  Rows of numbers that grow side by side, each in a block of its own, their headers in one block (layers 8, 9 ..): in memory.
  Rows of rows of numbers: one's own, as they grow; whoever's, as they are read (layers 8, 9 ..).
-/
import Derived.Test.YtdocbgfpnaiijaaSetLib
import Derived.Deep.AppendLies
import Derived.ArgAppend
namespace Go.Proofs.Ytdocbgfpnaiijaa
open Go.RowKit Go.Conc

theorem Try.infoRowI : (Try.prog.info? 29).map (fun i => (i.zero, i.size, i.bytes)) = some (some (.slice none 0 0), 1, 24) := by kernel_rfl
theorem Try.infoRowB : (Try.prog.info? 28).map (fun i => (i.zero, i.size, i.bytes)) = some (some (.slice none 0 0), 1, 24) := by kernel_rfl
theorem made_rows (n : Nat) : madeCells (Value.slice none 0 0).cells n = (List.replicate n (Value.slice none 0 0)).toArray := by
  apply Array.ext'
  rw [List.toList_toArray]
  apply List.ext_getElem?
  intro i
  unfold madeCells
  rw [List.getElem?_replicate]
  by_cases h : i < n
  · simp [h, Value.cells, Nat.mod_one]
  · simp [h]
theorem make_rowsI (z : Int) (n : Nat) (e : z = n) (h : n ≤ 4000) (W : World) : (Instr.makeSlice 59 (.int .i64 z) (.int .i64 z)).run Try.prog W = .ok (.slice (some ⟨W.heap.size, 0, none⟩) n n) (W.alloc (.cells (Array.replicate n (Value.slice none 0 0)) 29)) := by
  subst e
  obtain ⟨iA, hi, hz0, hz1, hz2⟩ := info_parts Try.infoRowI
  have := run_makeSlice (P := Try.prog) W 59 29 iA (.slice none 0 0) Try.underlying59 hi hz0 .i64 .i64 (n : Int) (n : Int) (by omega) (Int.le_refl _) (by rw [hz1]; omega) (by rw [hz2]; omega) (by omega)
  rw [this, hz1, made_rows, Int.toNat_natCast, Nat.mul_one, List.toArray_replicate]
theorem make_rowsB (z : Int) (n : Nat) (e : z = n) (h : n ≤ 4000) (W : World) : (Instr.makeSlice 37 (.int .i64 z) (.int .i64 z)).run Try.prog W = .ok (.slice (some ⟨W.heap.size, 0, none⟩) n n) (W.alloc (.cells (Array.replicate n (Value.slice none 0 0)) 28)) := by
  subst e
  obtain ⟨iA, hi, hz0, hz1, hz2⟩ := info_parts Try.infoRowB
  have := run_makeSlice (P := Try.prog) W 37 28 iA (.slice none 0 0) Try.underlying37 hi hz0 .i64 .i64 (n : Int) (n : Int) (by omega) (Int.le_refl _) (by rw [hz1]; omega) (by rw [hz2]; omega) (by omega)
  rw [this, hz1, made_rows, Int.toNat_natCast, Nat.mul_one, List.toArray_replicate]
theorem make_boolsN (n : Nat) (h : n ≤ 4000) (W : World) : (Instr.makeSlice 28 (.int .i64 (n : Int)) (.int .i64 (n : Int))).run Try.prog W = .ok (.slice (some ⟨W.heap.size, 0, none⟩) n n) (W.alloc (.cells (Array.replicate n (Value.bool false)) 4)) := by
  obtain ⟨iA, hi, hz0, hz1, hz2⟩ := info_parts Try.infoBl6
  have := run_makeSlice (P := Try.prog) W 28 4 iA (.bool false) Try.underlying28 hi hz0 .i64 .i64 (n : Int) (n : Int) (by omega) (Int.le_refl _) (by rw [hz1]; omega) (by rw [hz2]; omega) (by omega)
  rw [this, hz1, made_bools6, Int.toNat_natCast, Nat.mul_one, List.toArray_replicate]

theorem ownsRow_keep {w w' : World} {base : Nat} {e : TypeId} {size : Nat} {v : Value} {n : Nat} {xs : List Value} (h : w.ownsRow base e size v n xs) (hk : ∀ k, v.ownBlock = some k → w'.heap[k]? = w.heap[k]?) : w'.ownsRow base e size v n xs := by
  obtain ⟨h1, h2⟩ := h
  refine ⟨h1, ?_⟩
  rcases h2 with h2 | ⟨g, cap, cur, rfl, a, b, c⟩
  · exact .inl h2
  · exact .inr ⟨g, cap, cur, rfl, a, (hk g rfl).trans b, c⟩

theorem ownsRow_ne {w : World} {N : Nat} {e t : TypeId} {z : Nat} {v : Value} {n : Nat} {xs : List Value} {b : Nat} {cs : Array Value} {fr : Nat × Nat} (h : w.ownsRow N e z v n xs) (hb : w.heap[b]? = some (.cells cs t fr)) (hne : e ≠ t) : v.ownBlock ≠ some b := by
  intro hv
  rcases h.2 with ⟨rfl, _⟩ | ⟨g, cap, cur, rfl, _, hg, _⟩
  · cases hv
  · have : g = b := by simpa [Value.ownBlock] using hv
    subst this
    rw [hg] at hb
    cases hb
    exact hne rfl

/-- a row of numbers may have grown by one: what it was, it still is; what is one longer stays -/
structure RowR (M : Nat) (v : Value) (xs : List Int) (l : Int) (w w' : World) : Prop where
  grown : w.grownBy w' v.ownBlock
  old : OwnInts M w v xs → OwnInts M w' v xs
  new : ∀ g cap, OwnInts M w (.slice (some ⟨g, 0, none⟩) (xs.length + 1) cap) (xs ++ [l]) → OwnInts M w' (.slice (some ⟨g, 0, none⟩) (xs.length + 1) cap) (xs ++ [l])
theorem RowR.refl {M : Nat} {v : Value} {xs : List Int} {l : Int} (w : World) : RowR M v xs l w w := ⟨⟨rfl, rfl, rfl, Nat.le_refl _, fun _ _ _ => rfl⟩, id, fun _ _ => id⟩
theorem RowR.trans {M : Nat} {v : Value} {xs : List Int} {l : Int} {w w' w'' : World} (h : RowR M v xs l w w') (h' : RowR M v xs l w' w'') : RowR M v xs l w w'' :=
  ⟨⟨h'.grown.os.trans h.grown.os, h'.grown.tape.trans h.grown.tape, h'.grown.output.trans h.grown.output, Nat.le_trans h.grown.size h'.grown.size, fun k hk hn => (h'.grown.block k (Nat.lt_of_lt_of_le hk h.grown.size) hn).trans (h.grown.block k hk hn)⟩, fun q => h'.old (h.old q), fun g cap q => h'.new g cap (h.new g cap q)⟩
theorem RowR.lat {M : Nat} {v : Value} {xs : List Int} {l : Int} {w w' : World} (h : Lat w w') : RowR M v xs l w w' :=
  ⟨⟨h.os, h.tape, h.output, h.size, fun k hk _ => h.block k hk⟩, fun q => ownsRow_below q h, fun _ _ q => ownsRow_below q h⟩
theorem RowR.of_drew {M : Nat} {v : Value} {xs : List Int} {l : Int} {w w' : World} (h : RowR M v xs l w.drew w') : RowR M v xs l w w' :=
  (RowR.lat ⟨rfl, rfl, rfl, Nat.le_refl _, fun _ _ => rfl⟩ : RowR M v xs l w w.drew).trans h
theorem grown_none {w w' : World} {base : Nat} {e : TypeId} {size : Nat} {v : Value} {n : Nat} {xs : List Value} (h : w.ownsRow base e size v n xs) (hg : w.grownBy w' none) : w'.ownsRow base e size v n xs :=
  h.kept hg (by cases hv : v.ownBlock <;> simp)
theorem RowR.none {M : Nat} {v : Value} {xs : List Int} {l : Int} {w w' : World} (h : w.grownBy w' none) : RowR M v xs l w w' :=
  ⟨⟨h.os, h.tape, h.output, h.size, fun k hk _ => h.block k hk (by simp)⟩, fun q => grown_none q h, fun _ _ q => grown_none q h⟩

theorem run_append_exact (w : World) (ty : TypeId) (M : Nat) (v : Value) (xs : List Int) (hown : OwnInts M w v xs) (b c : Nat) (l : Int) (hc : w.cell? ⟨b, 0, none⟩ = some (.int .i64 l)) (h8 : xs.length + 1 ≤ 8000) (hM : M ≤ w.heap.size) :
    ∃ g cap w', (Builtin.append_ #[29, 29] ty #[v, .slice (some ⟨b, 0, none⟩) 1 c]).run Try.prog w = .ok (.slice (some ⟨g, 0, none⟩) (xs.length + 1) cap) w' ∧ OwnInts M w' (.slice (some ⟨g, 0, none⟩) (xs.length + 1) cap) (xs ++ [l]) ∧ RowR M v xs l w w' ∧ (v.ownBlock = some g ∨ w.heap.size ≤ g) := by
  obtain ⟨iA, hi, hz0, hz1, hz2⟩ := info_parts Try.infoIn
  have hnews : ∀ j u, [Value.int .i64 l][j]? = some u → w.cell? ((⟨b, 0, none⟩ : Addr).add j) = some u := fun j u hj => by
    cases j with
    | zero => simp at hj; subst hj; simpa [addr_zero_add] using hc
    | succ j => simp at hj
  have hown' : w.ownsRow M 3 1 v xs.length (xs.map (Value.int .i64)) := hown
  rcases hown'.2 with ⟨rfl, h0⟩ | ⟨g, cap, cur, rfl, hMg, hg, hncap, hcm, hcs, htk⟩
  · obtain ⟨g, cap, w', hr, h1, h2, h3, _⟩ := run_append_lies (P := Try.prog) w 29 ty M 3 iA _ 1 8 Try.underlying29 hi hz0 hz1 hz2 rfl (by decide) _ xs.length (xs.map (.int .i64)) hown ⟨b, 0, none⟩ 1 c [.int .i64 l] rfl hnews (by simp [Value.oneCell']) (by decide) (by unfold maxLen; omega) (by omega) hM _ rfl
    refine ⟨g, cap, w', hr, ?_, RowR.none h2, .inr ?_⟩
    · unfold OwnInts; rw [List.length_append, List.map_append]; exact h1
    · rcases h3 with h3 | h3
      · cases h3
      · omega
  · by_cases hroom : xs.length + 1 ≤ cap
    · have hr := run_append_room (P := Try.prog) w 29 ty 3 iA Try.underlying29 hi g xs.length cap cur hg ⟨b, 0, none⟩ 1 c [.int .i64 l] (by rw [hz1]; rfl) hnews (by simp [Value.oneCell']) hroom (by rw [hz1, hcs]; simp; omega)
      rw [hz1, Nat.mul_one] at hr
      rw [Nat.mul_one] at htk hcs
      rw [htk] at hr
      simp only [List.length_singleton] at hr
      have hnew := setRow_heap w g cur (xs.map (Value.int .i64) ++ [Value.int .i64 l] ++ cur.toList.drop (xs.length + 1)).toArray 3 (0, 0) hg
      have hcl : cur.toList.length = cap := by simpa using hcs
      have hsz : (xs.map (Value.int .i64) ++ [Value.int .i64 l] ++ cur.toList.drop (xs.length + 1)).toArray.size = cap := by
        rw [List.size_toArray, List.length_append, List.length_append, List.length_drop, List.length_map, List.length_singleton, hcl]; omega
      refine ⟨g, cap, _, hr, ?_, ⟨⟨rfl, rfl, rfl, by simp, fun k hk hn => setRow_other w g k _ fun e => hn (by rw [e]; rfl)⟩, fun _ => ?_, fun g' cap' q => ?_⟩, .inl rfl⟩
      · refine ⟨by simp, .inr ⟨g, cap, _, by simp, hMg, hnew, by simpa using hroom, hcm, by rw [hsz, Nat.mul_one], ?_⟩⟩
        rw [Nat.mul_one, List.toList_toArray, List.length_append, List.length_singleton, List.take_append_of_le_length (by simp), List.take_of_length_le (by simp), List.map_append]
        rfl
      · refine ⟨by simp, .inr ⟨g, cap, _, rfl, hMg, hnew, hncap, hcm, by rw [hsz, Nat.mul_one], ?_⟩⟩
        rw [Nat.mul_one, List.toList_toArray, List.append_assoc, List.take_append_of_le_length (by simp), List.take_of_length_le (by simp)]
      · by_cases e : g' = g
        · subst e
          rcases q.2 with ⟨e2, _⟩ | ⟨g2, cap2, cur2, e2, h1, h2, h3, h4, h5, h6⟩
          · cases e2
          · obtain ⟨e3, e4⟩ : g' = g2 ∧ cap' = cap2 := by
              simp only [Value.slice.injEq, Option.some.injEq, Addr.mk.injEq] at e2
              exact ⟨e2.1.1, e2.2.2⟩
            subst e3; subst e4
            rw [hg] at h2
            obtain rfl : cur = cur2 := (Obj.cells.inj (Option.some.inj h2)).1
            refine ⟨q.1, .inr ⟨g', cap', _, by simp, h1, hnew, h3, h4, by rw [hsz, ← hcs, h5], ?_⟩⟩
            rw [Nat.mul_one, List.toList_toArray, List.length_append, List.length_singleton, List.take_append_of_le_length (by simp), List.take_of_length_le (by simp), List.map_append]
            rfl
        · refine ownsRow_keep q fun k hk => setRow_other w g k _ fun e2 => e ?_
          have : g' = k := by simpa [Value.ownBlock] using hk
          rw [this, e2]
    · obtain ⟨v', w', hr, h1, h2⟩ := run_append_arg_grows (P := Try.prog) w 29 ty 3 iA _ 1 8 Try.underlying29 hi hz0 hz1 hz2 rfl (by decide) ⟨g, 0, none⟩ xs.length cap (xs.map (.int .i64)) (by simp) (World.ownsRow.cells hown' rfl) ⟨b, 0, none⟩ 1 c [.int .i64 l] rfl hnews (by omega) (by unfold maxLen; omega) (by omega)
      obtain ⟨g2, cap2, rfl, h3, h4⟩ := h1.form (by omega)
      refine ⟨g2, cap2, w', hr, ?_, RowR.none h2, .inr h3⟩
      unfold OwnInts; rw [List.length_append, List.map_append]; exact ownsRow_from h1 hM

theorem wp_append_row {o : Oper} {a : Act} {w : World} {K : Act → World → Prop} {Q : Exit → Act → World → Prop} (s x : Operand) (ho : o.op = .call { callee := .builtin .append, args := #[s, x], argTypes := #[29, 29] })
    (M : Nat) (v : Value) (xs : List Int) (hs : a.eval s = v) (hown : OwnInts M w v xs) (b c : Nat) (l : Int) (hx : a.eval x = .slice (some ⟨b, 0, none⟩) 1 c) (hc : w.cell? ⟨b, 0, none⟩ = some (.int .i64 l)) (h8 : xs.length + 1 ≤ 8000) (hM : M ≤ w.heap.size)
    (h : ∀ g cap w', OwnInts M w' (.slice (some ⟨g, 0, none⟩) (xs.length + 1) cap) (xs ++ [l]) → RowR M v xs l w w' → (v.ownBlock = some g ∨ w.heap.size ≤ g) → K (a.put o.dst (.slice (some ⟨g, 0, none⟩) (xs.length + 1) cap)) w') : o.wp Try.prog a w K Q := by
  obtain ⟨g, cap, w', hr, h1, h2, h3⟩ := run_append_exact w o.type M v xs hown b c l hc h8 hM
  unfold Oper.wp execOp
  simp only [ho, resolve, invoke, builtin, Sem.run_bind, Sem.run_pure, Result.andThen_ok, List.map_toArray, List.map_cons, List.map_nil, hs, hx, hr]
  exact h g cap w' h1 h2 h3

/-! a drawn region amid which a row may grow: the steps of its walk -/
theorem wpFactsR_val {P : Program} {R : World → World → Prop} {ops : Array Oper} {w0 : World} {Q : Exit → Act → World → Prop} {all ss : List Spec} {tl : List Oper} {c : Value} {o : Oper} {rest : List Oper} {vs : List Value} {a : Act} (hw : Region.wanted o (yielded ops a.tmps) = true)
    (h1 : ∀ w, R w0 w → depsHold all vs w o.after.toList → ∀ K : Act → World → Prop, (∀ w', R w w' → K (a.put o.dst c) w') → o.wp P a w K (fun _ _ _ => False)) (h2 : wpFacts P ops R w0 Q all tl ss rest (vs ++ [c]) (a.put o.dst c)) : wpFacts P ops R w0 Q all tl (.val c :: ss) (o :: rest) vs a :=
  ⟨fun w hR hd => StepF.val hw (h1 w hR hd), h2⟩
theorem wpFactsR_fact {P : Program} {R : World → World → Prop} {ops : Array Oper} {w0 : World} {Q : Exit → Act → World → Prop} {all ss : List Spec} {tl : List Oper} {F : Value → World → Prop} {o : Oper} {rest : List Oper} {vs : List Value} {a : Act} (hw : Region.wanted o (yielded ops a.tmps) = true)
    (h1 : ∀ w, R w0 w → depsHold all vs w o.after.toList → ∀ K : Act → World → Prop, (∀ u w', R w w' → F u w' → K (a.put o.dst u) w') → o.wp P a w K (fun _ _ _ => False)) (h2 : ∀ u, wpFacts P ops R w0 Q all tl ss rest (vs ++ [u]) (a.put o.dst u)) : wpFacts P ops R w0 Q all tl (.fact F :: ss) (o :: rest) vs a :=
  ⟨fun w hR hd => StepF.fact hw (h1 w hR hd), h2⟩
theorem wpFactsR_norm {P : Program} {R : World → World → Prop} {ops : Array Oper} {w0 : World} {Q : Exit → Act → World → Prop} {all ss : List Spec} {tl : List Oper} {rest : List Oper} {vs vs' : List Value} {a a' : Act} (ha : a = a') (hv : vs = vs') (h : wpFacts P ops R w0 Q all tl ss rest vs' a') : wpFacts P ops R w0 Q all tl ss rest vs a := by rw [ha, hv]; exact h
theorem wp_region_row {P : Program} {id : Nat} {Q : Exit → Act → World → Prop} {a : Act} {w : World} {l : List Oper} (M : Nat) (v : Value) (xs : List Int) (y : Int) (ss : List Spec) (tl : List Oper) (hm : P.follows .mixedOrders = true) (hF : factsB l.toArray (ss.map Spec.isDone) [] (Array.replicate l.toArray.size false) l.toArray.size = true)
    (htl : tailOps l.toArray (fun i => ([] : List Nat).contains i) (l.toArray.size - ss.length) ss.length = tl) (hk : specsKept (RowR M v xs y) l.toArray 0 ss) (h : wpFacts P l.toArray (RowR M v xs y) w.drew Q ss tl ss l [] a) : (Code.region id l.toArray true).wp P Q a w :=
  wp_region_facts (RowR M v xs y) ss tl hm hF htl RowR.refl (fun _ _ _ => RowR.trans) hk h

/-- rows of numbers, side by side -/
structure LAt (M L : Nat) (vs : List Value) (ls : List (List Int)) (w : World) : Prop where
  lb : w.heap[L]? = some (.cells vs.toArray 29 (0, 0))
  len : vs.length = ls.length
  own : ∀ i (hi : i < vs.length), OwnInts M w vs[i] (ls.getD i [])
  apart : ∀ i (hi : i < vs.length) j (hj : j < vs.length), i ≠ j → ∀ b, vs[i].ownBlock = some b → vs[j].ownBlock ≠ some b

theorem LAt.ne {M L : Nat} {vs : List Value} {ls : List (List Int)} {w : World} (h : LAt M L vs ls w) (i : Nat) (hi : i < vs.length) : vs[i].ownBlock ≠ some L := by
  intro hv
  rcases (h.own i hi).2 with ⟨e, _⟩ | ⟨g, cap, cur, e, _, hg, _⟩
  · rw [e] at hv; cases hv
  · rw [e] at hv
    have : g = L := by simpa [Value.ownBlock] using hv
    subst this
    rw [h.lb] at hg
    exact absurd (Obj.cells.inj (Option.some.inj hg)).2.1 (by decide)
theorem LAt.start {M L n : Nat} {w : World} (h : w.heap[L]? = some (.cells (Array.replicate n (Value.slice none 0 0)) 29 (0, 0))) : LAt M L (List.replicate n (.slice none 0 0)) (List.replicate n []) w := by
  refine ⟨by rw [h, List.toArray_replicate], by simp, fun i hi => ?_, fun i hi j hj _ b hb => by rw [List.getElem_replicate] at hb; cases hb⟩
  have hi' : i < n := by simpa using hi
  rw [List.getElem_replicate, show (List.replicate n ([] : List Int)).getD i [] = [] from by simp [hi']]
  exact World.ownsRow_nil _ _ _ _
theorem LAt.keep {M L : Nat} {vs : List Value} {ls : List (List Int)} {w w' : World} (h : LAt M L vs ls w) (hL : w'.heap[L]? = w.heap[L]?) (ho : ∀ i (hi : i < vs.length) k, vs[i].ownBlock = some k → w'.heap[k]? = w.heap[k]?) : LAt M L vs ls w' :=
  ⟨hL.trans h.lb, h.len, fun i hi => ownsRow_keep (h.own i hi) (ho i hi), h.apart⟩
theorem LAt.later {M L : Nat} {vs : List Value} {ls : List (List Int)} {w w' : World} (h : LAt M L vs ls w) (hb : Below w.heap.size w w') : LAt M L vs ls w' :=
  h.keep (hb.block _ (Array.getElem?_eq_some_iff.1 h.lb).1) fun i hi k hk => hb.block _ ((h.own i hi).lt k hk).2
theorem LAt.cell {M L : Nat} {vs : List Value} {ls : List (List Int)} {w : World} (h : LAt M L vs ls w) (x : Nat) (hx : x < vs.length) : w.cell? ⟨L, x, none⟩ = some vs[x] ∧ w.frozen? ⟨L, x, none⟩ = false := by
  constructor
  · simp [World.cell?, h.lb, hx]
  · simp [World.frozen?, h.lb]
theorem LAt.from {M M' L : Nat} {vs : List Value} {ls : List (List Int)} {w : World} (h : LAt M L vs ls w) (hM : M' ≤ M) : LAt M' L vs ls w :=
  ⟨h.lb, h.len, fun i hi => ownsRow_from (h.own i hi) hM, h.apart⟩
/-- the blocks of other kinds may change -/
theorem LAt.butL {M L : Nat} {vs : List Value} {ls : List (List Int)} {w w' : World} {l : List Nat} (h : LAt M L vs ls w) (hb : ButL l w w') (hl : ∀ k ∈ l, ∀ cs fr, w.heap[k]? = some (.cells cs 29 fr) ∨ w.heap[k]? = some (.cells cs 3 fr) → False) : LAt M L vs ls w' := by
  refine h.keep (hb.block _ (Array.getElem?_eq_some_iff.1 h.lb).1 fun q => hl L q _ _ (.inl h.lb)) fun i hi k hk => hb.block _ ((h.own i hi).lt k hk).2 fun q => ?_
  rcases (h.own i hi).2 with ⟨e, _⟩ | ⟨g, cap, cur, e, _, hg, _⟩
  · rw [e] at hk; cases hk
  · rw [e] at hk
    have : g = k := by simpa [Value.ownBlock] using hk
    subst this
    exact hl g q _ _ (.inr hg)
/-- one more -/
theorem LAt.push {M L : Nat} {vs : List Value} {ls : List (List Int)} {w w1 : World} {v' : Value} (h : LAt M L vs ls w) (x g : Nat) (hx : x < vs.length) (l : Int) (hg : w.grownBy w1 vs[x].ownBlock) (ho : OwnInts M w1 v' (ls.getD x [] ++ [l])) (hv : v'.ownBlock = some g) (hgg : vs[x].ownBlock = some g ∨ w.heap.size ≤ g) :
    LAt M L (vs.set x v') (Fi.push ls (x : Int) l) (w1.setCell ⟨L, x, none⟩ v') := by
  have hLl := (Array.getElem?_eq_some_iff.1 h.lb).1
  have hL1 : w1.heap[L]? = w.heap[L]? := hg.block L hLl fun e => h.ne x hx e.symm
  have hgL : g ≠ L := by
    rcases hgg with e | e
    · intro q; rw [q] at e; exact h.ne x hx e
    · omega
  have e1 : Fi.push ls (x : Int) l = ls.set x (ls.getD x [] ++ [l]) := by simp [Fi.push]
  refine ⟨?_, by rw [e1]; simp [h.len], fun i hi => ?_, fun i hi j hj hij b hb => ?_⟩
  · simp [World.setCell, Array.getElem?_modify, hL1, h.lb]
  · have hi' : i < vs.length := by simpa using hi
    rw [e1]
    by_cases e : x = i
    · subst e
      rw [List.getElem_set_self]
      have hxl : x < ls.length := by rw [← h.len]; exact hx
      have e3 : (ls.set x (ls.getD x [] ++ [l])).getD x [] = ls.getD x [] ++ [l] := by simp [hxl]
      rw [e3]
      exact ownsRow_setCell_other ho (by rw [hv]; intro q; exact hgL (Option.some.inj q)) _
    · rw [List.getElem_set_ne e]
      have e3 : (ls.set x (ls.getD x [] ++ [l])).getD i [] = ls.getD i [] := by simp [e]
      rw [e3]
      refine ownsRow_setCell_other (ownsRow_keep (h.own i hi') fun k hk => ?_) (h.ne i hi') _
      exact hg.block k ((h.own i hi').lt k hk).2 fun q => h.apart i hi' x hx (fun q => e q.symm) k hk q.symm
  · have hi' : i < vs.length := by simpa using hi
    have hj' : j < vs.length := by simpa using hj
    by_cases ei : x = i
    · subst ei
      rw [List.getElem_set_self] at hb
      have hbg : g = b := by rw [hv] at hb; exact Option.some.inj hb
      subst hbg
      rw [List.getElem_set_ne hij]
      rcases hgg with e | e
      · exact h.apart x hx j hj' hij g e
      · intro q; have := ((h.own j hj').lt g q).2; omega
    · rw [List.getElem_set_ne ei] at hb
      by_cases ej : x = j
      · subst ej
        rw [List.getElem_set_self, hv]
        intro q
        have hbg : g = b := Option.some.inj q
        subst hbg
        rcases hgg with e | e
        · exact h.apart i hi' x hx hij g hb e
        · have := ((h.own i hi').lt g hb).2; omega
      · rw [List.getElem_set_ne ej]; exact h.apart i hi' j hj' hij b hb
end Go.Proofs.Ytdocbgfpnaiijaa

namespace Go.Proofs.Ytdocbgfpnaiijaa
open Go.RowKit Go.Conc

/-- rows of numbers in a row -/
def LisAt (N : Nat) (w : World) (ao : Option Addr) (xss : List (List Int)) : Prop :=
  ∀ i (_ : i < xss.length), ∃ b o ro rc, ao = some ⟨b, o, none⟩ ∧ b < N ∧ b < w.heap.size ∧ w.cell? ⟨b, o + i, none⟩ = some (.slice ro xss[i].length rc) ∧ IntsAt N w ro xss[i]
theorem LisAt.later {N : Nat} {w w' : World} {ao : Option Addr} {xss : List (List Int)} (h : LisAt N w ao xss) (hb : Below N w w') : LisAt N w' ao xss := by
  intro i hi
  obtain ⟨b, o, ro, rc, e, h1, h2, c, h3⟩ := h i hi
  exact ⟨b, o, ro, rc, e, h1, Nat.lt_of_lt_of_le h2 hb.size, (hb.cell h1).trans c, h3.later hb⟩
theorem LisAt.size {N : Nat} {w : World} {ao : Option Addr} {xss : List (List Int)} (h : LisAt N w ao xss) : LisAt w.heap.size w ao xss := by
  intro i hi
  obtain ⟨b, o, ro, rc, e, h1, h2, c, h3⟩ := h i hi
  exact ⟨b, o, ro, rc, e, h2, h2, c, h3.size⟩
theorem LisAt.next {w w' : World} {ao : Option Addr} {xss : List (List Int)} (h : LisAt w.heap.size w ao xss) (hb : Below w.heap.size w w') : LisAt w'.heap.size w' ao xss := (h.later hb).size
theorem LisAt.nil {N : Nat} {w : World} {ao : Option Addr} : LisAt N w ao [] := fun i hi => by simp at hi

/-- rows of numbers in a row of one's own -/
def OwnRows (base : Nat) (w : World) (v : Value) (xss : List (List Int)) : Prop :=
  ∃ vs : List Value, w.ownsRow base 29 1 v xss.length vs ∧ vs.length = xss.length ∧ ∀ i (_ : i < vs.length), OwnInts base w vs[i] (xss.getD i [])
theorem OwnRows.nil (base : Nat) (w : World) : OwnRows base w (.slice none 0 0) [] := ⟨[], World.ownsRow_nil _ _ _ _, rfl, fun i hi => by simp at hi⟩
theorem OwnRows.below {base : Nat} {w w' : World} {v : Value} {xss : List (List Int)} (h : OwnRows base w v xss) (hb : Below w.heap.size w w') : OwnRows base w' v xss := by
  obtain ⟨vs, h1, h2, h3⟩ := h
  exact ⟨vs, ownsRow_below h1 hb, h2, fun i hi => ownsRow_below (h3 i hi) hb⟩
theorem OwnRows.read {base : Nat} {w : World} {v : Value} {xss : List (List Int)} (h : OwnRows base w v xss) : ∃ ao c, v = .slice ao xss.length c ∧ LisAt w.heap.size w ao xss ∧ xss.length ≤ c := by
  obtain ⟨vs, h1, h2, h3⟩ := h
  have key : ∀ g cap, v = .slice (some ⟨g, 0, none⟩) xss.length cap → LisAt w.heap.size w (some ⟨g, 0, none⟩) xss := fun g cap e i hi => by
    subst e
    have hi' : i < vs.length := by omega
    have hc := World.ownsRow.cells h1 (g := g) rfl i vs[i] (by simp [hi'])
    rw [addr_zero_add] at hc
    obtain ⟨ro, rc, e2, h4, _⟩ := OwnInts.read (h3 i hi')
    have hx : xss.getD i [] = xss[i] := by simp [List.getD_eq_getElem?_getD, hi]
    rw [hx] at e2 h4
    have hlt := World.block_lt_of_cell? _ _ hc
    exact ⟨g, 0, ro, rc, rfl, hlt, hlt, by rw [Nat.zero_add, hc, e2], h4.size⟩
  rcases h1.2 with ⟨e, h0⟩ | ⟨g, cap, cur, e, _, _, hle, _⟩
  · have : xss = [] := List.eq_nil_of_length_eq_zero h0
    subst this
    exact ⟨none, 0, e, LisAt.nil, Nat.zero_le _⟩
  · exact ⟨_, cap, e, key g cap e, hle⟩
theorem OwnRows.from {base base' : Nat} {w : World} {v : Value} {xss : List (List Int)} (h : OwnRows base w v xss) (hb : base' ≤ base) : OwnRows base' w v xss := by
  obtain ⟨vs, h1, h2, h3⟩ := h
  exact ⟨vs, ownsRow_from h1 hb, h2, fun i hi => ownsRow_from (h3 i hi) hb⟩
theorem OwnRows.lt {base : Nat} {w : World} {v : Value} {xss : List (List Int)} (h : OwnRows base w v xss) (k : Nat) (hk : v.ownBlock = some k) : k < w.heap.size := by
  obtain ⟨vs, h1, _⟩ := h
  exact (h1.lt k hk).2
theorem OwnRows.ge {base : Nat} {w : World} {v : Value} {xss : List (List Int)} (h : OwnRows base w v xss) (k : Nat) (hk : v.ownBlock = some k) : base ≤ k := by
  obtain ⟨vs, h1, _⟩ := h
  exact (h1.lt k hk).1
/-- a block of another kind may change -/
theorem OwnRows.but {base b : Nat} {w w' : World} {v : Value} {xss : List (List Int)} {cs : Array Value} {t : TypeId} {fr : Nat × Nat} (h : OwnRows base w v xss) (hb : w.heap[b]? = some (.cells cs t fr)) (h1 : 29 ≠ t) (h2 : 3 ≠ t) (hk : ∀ k, k < w.heap.size → k ≠ b → w'.heap[k]? = w.heap[k]?) : OwnRows base w' v xss := by
  obtain ⟨vs, g1, g2, g3⟩ := h
  exact ⟨vs, ownsRow_keep g1 fun k e => hk k (g1.lt k e).2 fun q => ownsRow_ne g1 hb h1 (by rw [e, q]), g2, fun i hi => ownsRow_keep (g3 i hi) fun k e => hk k ((g3 i hi).lt k e).2 fun q => ownsRow_ne (g3 i hi) hb h2 (by rw [e, q])⟩
theorem OwnRows.push {base : Nat} {w w1 : World} {v v' u : Value} {xss : List (List Int)} {xs : List Int} {vs : List Value} (h1 : w.ownsRow base 29 1 v xss.length vs) (h2 : vs.length = xss.length) (h3 : ∀ i (_ : i < vs.length), OwnInts base w vs[i] (xss.getD i [])) (hu : OwnInts base w u xs)
    (hg : w.grownBy w1 v.ownBlock) (ho : w1.ownsRow base 29 1 v' (xss.length + 1) (vs ++ [u])) : OwnRows base w1 v' (xss ++ [xs]) := by
  refine ⟨vs ++ [u], by rw [List.length_append]; exact ho, by simp [h2], fun i hi => ?_⟩
  have kp : ∀ {z : Value} {ys : List Int}, OwnInts base w z ys → OwnInts base w1 z ys := fun hz => World.ownsRow.kept hz hg (row_apart hz h1 (by decide))
  by_cases e : i < vs.length
  · rw [List.getElem_append_left e, show (xss ++ [xs]).getD i [] = xss.getD i [] from by simp [List.getD_eq_getElem?_getD, List.getElem?_append_left (show i < xss.length by omega)]]
    exact kp (h3 i e)
  · have hi' : i = vs.length := by simp at hi; omega
    subst hi'
    rw [List.getElem_append_right (Nat.le_refl _), show (xss ++ [xs]).getD vs.length [] = xs from by simp [List.getD_eq_getElem?_getD, h2]]
    simpa using kp hu

/-- append of a row onto rows -/
theorem wpList_append_row {ops : Array Oper} {rest : List Oper} {o : Oper} {a : Act} {Q : Exit → Act → World → Prop} {w : World} (hw : Region.wanted o (yielded ops a.tmps) = true) (s x : Operand)
    (ho : o.op = .call { callee := .builtin .append, args := #[s, x], argTypes := #[59, 59] }) (base : Nat) (v : Value) (xss : List (List Int)) (hs : a.eval s = v) (hown : OwnRows base w v xss)
    (b c : Nat) (u : Value) (xs : List Int) (hu : OwnInts base w u xs) (hx : a.eval x = .slice (some ⟨b, 0, none⟩) 1 c) (hnews : w.cell? ⟨b, 0, none⟩ = some u)
    (hb : xss.length + 1 ≤ 8000) (hbase : base ≤ w.heap.size)
    (h : ∀ g cap w', OwnRows base w' (.slice (some ⟨g, 0, none⟩) (xss.length + 1) cap) (xss ++ [xs]) → w.grownBy w' v.ownBlock → wpList Try.prog ops Q rest (a.put o.dst (.slice (some ⟨g, 0, none⟩) (xss.length + 1) cap)) w') : wpList Try.prog ops Q (o :: rest) a w := by
  obtain ⟨iA, hi, hz0, hz1, hz2⟩ := info_parts Try.infoRowI
  obtain ⟨vs, h1, h2, h3⟩ := hown
  obtain ⟨uo, uc, rfl, _⟩ := OwnInts.read hu
  refine wpList_wanted hw fun K hK => wp_append_lies _ s x 59 ho base 29 iA _ 1 24 Try.underlying59 hi hz0 hz1 hz2 rfl (by decide) v xss.length vs hs h1 ⟨b, 0, none⟩ 1 c [.slice uo xs.length uc] hx rfl ?_ (by simp [Value.oneCell']) (by decide) (by unfold maxLen; omega) (by omega) hbase _ rfl
    (fun g cap w' g2 g3 g4 _ => hK _ _ (h g cap w' (OwnRows.push h1 h2 h3 hu g3 g2) g3))
  intro j y hj
  cases j with
  | zero => simp at hj; subst hj; simpa [addr_zero_add] using hnews
  | succ j => simp at hj
end Go.Proofs.Ytdocbgfpnaiijaa
