/-
  Communication in one goroutine, for the walk by 'Code.wp': a send into a buffer with room, a select of one receive with a default, as operations of a region that is walked in the text's order.
-/
import Derived.Test.YtdocbgfpnaiijaaChecked
import Derived.Conc.LoneSelect
import Derived.Tactics
namespace Go.Proofs.Ytdocbgfpnaiijaa
open Go.RowKit Go.Conc

/-- amid a region: from these operations on it is left so -/
def InReg (P : Program) (ops : Array Oper) (Q : Exit → Act → World → Prop) (l : List Nat) (a : Act) (w : World) : Prop :=
  ∀ (b : Frame) (k : List Item) (cs : List Frame), ∃ e a' w', Q e a' w' ∧ Arrives P (lone (b.at a (.inRegion ops l :: k)) cs w) b k cs e a' w'

section
variable {P : Program} {ops : Array Oper} {Q : Exit → Act → World → Prop} {a : Act} {w : World} {i : Nat} {rest : List Nat} {o : Oper}

theorem inReg_ops {l : List Nat} (h : wpOps P ops Q l a w) : InReg P ops Q l a w := fun b k cs => wp_ops l a w h b k cs

/-- an operation that communicates is the goroutine's step -/
theorem comm_step {b : Frame} {k : List Item} {cs : List Frame} {cases : Array CommCase} {blocking : Bool} {shape : CommShape} {w' : World} (ho : ops[i]? = some o) (hw : Region.wanted o (yielded ops a.tmps) = true)
    (hr : (execOp a.eval o).run P w = .ok (.comm cases blocking shape) w') :
    ∃ es, stepG P true (G (b.at a (.inRegion ops (i :: rest) :: k)) cs) w = .comm (G (b.at a (.inRegion ops (i :: rest) :: k)) cs) cases blocking shape w' es := by
  rw [stepG_oper ho hw]
  simp only [stepG.apply, Sem.runT_eq, hr, GStep.after]
  exact ⟨_, rfl⟩

theorem inReg_comm {a' : Act} {w' : World} {v : Value} (ho : ops[i]? = some o) (ha : a' = a.put o.dst v)
    (hs : ∀ (b : Frame) (k : List Item) (cs : List Frame), step P (solo (G (b.at a (.inRegion ops (i :: rest) :: k)) cs) w) = .next (solo (G ((b.at a (.inRegion ops (i :: rest) :: k)).finish v) cs) w'))
    (h : InReg P ops Q rest a' w') : InReg P ops Q (i :: rest) a w := by
  intro b k cs
  subst ha
  obtain ⟨e, a', w'', hq, harr⟩ := h b k cs
  refine ⟨e, a', w'', hq, .of_steps (.one ?_) harr⟩
  have := hs b k cs
  rw [Frame.finish_at, ho] at this
  exact this

theorem inReg_send {c cap s r : Nat} {buf : Array Value} {v z : Value} {tm : Bool} (ho : ops[i]? = some o) (hw : Region.wanted o (yielded ops a.tmps) = true)
    (hr : (execOp a.eval o).run P w = .ok (.comm #[scase c v z] true .send) w) (hc : w.heap[c]? = some (.chan cap buf false s r tm)) (hroom : buf.size < cap)
    (h : InReg P ops Q rest (a.put o.dst undef) (w.setChan c cap (buf.push v) false (s + 1) r tm)) : InReg P ops Q (i :: rest) a w :=
  inReg_comm ho rfl (fun _ _ _ => let ⟨_, e⟩ := comm_step ho hw hr; step_lone_send_room e hc hroom) h

theorem inReg_taken {c cap s r : Nat} {buf : Array Value} {z : Value} {closed tm : Bool} (ho : ops[i]? = some o) (hw : Region.wanted o (yielded ops a.tmps) = true)
    (hr : (execOp a.eval o).run P w = .ok (.comm #[rcase c z] false .select) w) (hc : w.heap[c]? = some (.chan cap buf closed s r tm)) (hsome : 0 < buf.size)
    (h : InReg P ops Q rest (a.put o.dst (.tuple #[goInt 0, .bool true, buf.getD 0 undef])) (w.setChan c cap (buf.extract 1 buf.size) closed s (r + 1) tm)) : InReg P ops Q (i :: rest) a w :=
  inReg_comm ho rfl (fun _ _ _ => let ⟨_, e⟩ := comm_step ho hw hr; step_lone_select_recv_buf e hc hsome) h

theorem inReg_default {c cap s r : Nat} {z : Value} {tm : Bool} (ho : ops[i]? = some o) (hw : Region.wanted o (yielded ops a.tmps) = true)
    (hr : (execOp a.eval o).run P w = .ok (.comm #[rcase c z] false .select) w) (hc : w.heap[c]? = some (.chan cap #[] false s r tm))
    (h : InReg P ops Q rest (a.put o.dst (.tuple #[goInt (-1), .bool false, z])) w) : InReg P ops Q (i :: rest) a w :=
  inReg_comm ho rfl (fun _ _ _ => let ⟨_, e⟩ := comm_step ho hw hr; step_lone_select_default e hc) h

/-- the first operations come to their end: the others go on -/
def upto (P : Program) (ops : Array Oper) (Q : Exit → Act → World → Prop) (suf : List Nat) : Exit → Act → World → Prop
  | .normal, a, w => InReg P ops Q suf a w
  | e, a, w => Q e a w

theorem inReg_pre (suf : List Nat) : ∀ (l : List Nat) (a : Act) (w : World), wpOps P ops (upto P ops Q suf) l a w → InReg P ops Q (l ++ suf) a w := by
  intro l
  induction l with
  | nil => exact fun a w h => h
  | cons i l ih =>
    intro a w h b k cs
    rw [List.cons_append]
    simp only [wpOps] at h
    have on : ∀ (a' : Act) (w' : World), Steps P (lone (b.at a (.inRegion ops (i :: (l ++ suf)) :: k)) cs w) (lone (b.at a' (.inRegion ops (l ++ suf) :: k)) cs w') → wpOps P ops (upto P ops Q suf) l a' w' →
        ∃ e a' w', Q e a' w' ∧ Arrives P (lone (b.at a (.inRegion ops (i :: (l ++ suf)) :: k)) cs w) b k cs e a' w' := by
      intro a' w' hs hn
      obtain ⟨e, a₂, w₂, hq, harr⟩ := ih a' w' hn b k cs
      exact ⟨e, a₂, w₂, hq, .of_steps hs harr⟩
    cases ho : ops[i]? with
    | none =>
      simp only [ho] at h
      have hs := step_op_skip (P := P) (b := b) (a := a) (k := k) (cs := cs) (w := w) (ops := ops) (i := i) (rest := l ++ suf) (by simp [ho])
      simp only [ho, Option.bind_none, Act.put] at hs
      exact on _ _ (.one hs) h
    | some o =>
      simp only [ho] at h
      by_cases hw : Region.wanted o (yielded ops a.tmps) = true
      · simp only [hw, if_true] at h
        rcases h with h | ⟨hasks, a₀, w₀, hq⟩
        · have hg := stepG_op (P := P) (b := b) (k := k) (cs := cs) (w := w) (rest := l ++ suf) ho hw
          have hfin : ∀ v, (b.at a (.inRegion ops (i :: (l ++ suf)) :: k)).finish v = b.at (a.put o.dst v) (.inRegion ops (l ++ suf) :: k) := by
            intro v; rw [Frame.finish_at, ho]; rfl
          unfold Oper.wp at h
          cases hr : (execOp a.eval o).run P w with
          | halt x w' =>
            rw [hr] at h
            cases x with
            | panic v =>
              refine ⟨_, a, w', h, .inRegion ops (i :: (l ++ suf)) :: k, .one (step_lone_go ?_)⟩
              rw [hg, ← Frame.raise_at]; simp [stepG.apply, hr]
            | _ => exact absurd h (by simp [Oper.upon])
          | ok x w' =>
            rw [hr] at h
            cases x with
            | value v => exact on _ _ (.one (step_lone_go (by rw [hg, ← hfin]; simp [stepG.apply, hr]))) h
            | skip => exact on _ _ (.one (step_lone_go (by rw [hg, ← hfin]; simp [stepG.apply, hr]))) h
            | enter f args =>
              have henter : step P (lone (b.at a (.inRegion ops (i :: (l ++ suf)) :: k)) cs w) = .next (lone (Frame.enter P f args .normal) (b.at a (.inRegion ops (i :: (l ++ suf)) :: k) :: cs) w') :=
                step_lone_go (by rw [hg]; simp [stepG.apply, hr, Frame.at])
              obtain ⟨e, w'', fr, hR, hsteps, _, hleave⟩ := h (b.at a (.inRegion ops (i :: (l ++ suf)) :: k) :: cs)
              cases e with
              | returned v => exact on _ _ (.head henter (hsteps.trans (.one (by rw [← hfin]; exact step_leave_returned hleave)))) hR
              | panicked chain =>
                refine ⟨.panic chain, a, w'', hR, .inRegion ops (i :: (l ++ suf)) :: k, .head henter (hsteps.trans (.one ?_))⟩
                rw [← Frame.raise_at]; exact step_leave_panicked hleave
              | outgrown =>
                obtain ⟨a₀, w₀, hq⟩ := hR
                exact ⟨.outgrown, a₀, w₀, hq, .inr (Outgrown.of_steps (.one henter) hsteps)⟩
            | row row args =>
              have henter : step P (lone (b.at a (.inRegion ops (i :: (l ++ suf)) :: k)) cs w) = .next (lone (Frame.ofRow P row args .normal) (b.at a (.inRegion ops (i :: (l ++ suf)) :: k) :: cs) w') :=
                step_lone_go (by rw [hg]; simp [stepG.apply, hr, Frame.at])
              obtain ⟨v, w'', hR, hsteps⟩ := h (b.at a (.inRegion ops (i :: (l ++ suf)) :: k)) cs
              exact on _ _ (.head henter (by rw [← hfin]; exact hsteps)) hR
            | defer d =>
              have hf : ({ b.at a (.inRegion ops (i :: (l ++ suf)) :: k) with defers := d :: a.defers } : Frame).finish undef = b.at ({ a with defers := d :: a.defers }.put o.dst undef) (.inRegion ops (l ++ suf) :: k) := by
                have := Frame.finish_at b { a with defers := d :: a.defers } ops i (l ++ suf) k undef
                rw [ho] at this; exact this
              refine on _ _ (.one (step_lone_go ?_)) h
              rw [hg]
              simp only [stepG.apply, Sem.runT_eq, hr, GStep.bare_after]
              exact congrArg (fun fr => GStep.go { frame := fr, callers := cs, status := .running, dying := none } w') hf
            | _ => exact absurd h (by simp [Oper.upon])
        · by_cases hk : b.kind = .early
          · exact ⟨.outgrown, a₀, w₀, hq, .inl hk⟩
          · exact ⟨.outgrown, a₀, w₀, hq, .inr (asks_outgrown ho hw hk hasks)⟩
      · simp only [hw, if_false, Bool.false_eq_true] at h
        have hs := step_op_skip (P := P) (b := b) (a := a) (k := k) (cs := cs) (w := w) (ops := ops) (i := i) (rest := l ++ suf) (by simp [ho]; simpa using hw)
        simp only [ho, Option.bind_some] at hs
        exact on _ _ (.one hs) h

theorem wp_inReg {id : Nat} (h : InReg P ops Q (List.range ops.size) a w) : (Code.region id ops false).wp P Q a w :=
  fun b k cs => let ⟨e, a', w', q, r⟩ := h b k cs; ⟨e, a', w', q, .of_steps (.one step_region) r⟩

theorem wpOps_prefix (l : List Oper) : ∀ k, (∀ j, j < l.length → l[j]? = ops[k + j]?) → wpOps P ops Q (List.range' k l.length) = wpList P ops Q l := by
  induction l with
  | nil => intro k _; funext a w; simp [wpOps, wpList]
  | cons o l ih =>
    intro k h
    have h0 : ops[k]? = some o := by simpa using (h 0 (by simp)).symm
    have ih' := ih (k + 1) fun j hj => by
      have := h (j + 1) (by simpa using hj)
      rw [show k + 1 + j = k + (j + 1) from by omega]; simpa using this
    funext a w
    simp only [List.length_cons, List.range'_succ, wpOps, h0, wpList, ih']

/-- a region whose last operation communicates -/
theorem wp_region_last {id : Nat} {pre : List Oper} {o : Oper} (h : wpList P (pre ++ [o]).toArray (upto P (pre ++ [o]).toArray Q [pre.length]) pre a w) : (Code.region id (pre ++ [o]).toArray false).wp P Q a w := by
  refine wp_inReg ?_
  have e : List.range (pre ++ [o]).toArray.size = List.range' 0 pre.length ++ [pre.length] := by
    simp [List.range_eq_range', List.range'_concat]
  rw [e]
  refine inReg_pre _ _ _ _ ?_
  rw [wpOps_prefix pre 0 fun j hj => by simp [List.getElem?_append_left hj]]
  exact h

/-- a region whose first operation communicates -/
theorem wp_region_head {id : Nat} {o : Oper} {l : List Oper} (h : InReg P (o :: l).toArray Q (0 :: List.range' 1 l.length) a w) : (Code.region id (o :: l).toArray false).wp P Q a w := by
  refine wp_inReg ?_
  have e : List.range (o :: l).toArray.size = 0 :: List.range' 1 l.length := by
    simp [List.range_eq_range', List.range'_succ]
  rw [e]; exact h
theorem inReg_list {o : Oper} {l : List Oper} (h : wpList P (o :: l).toArray Q l a w) : InReg P (o :: l).toArray Q (List.range' 1 l.length) a w := by
  refine inReg_ops ?_
  rw [wpOps_eq_wpList l 1 (fun j => by simp [Nat.add_comm 1 j])]
  exact h
end
end Go.Proofs.Ytdocbgfpnaiijaa
