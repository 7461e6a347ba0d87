/-
  For regions that draw their order and make memory: the steps of such a walk; a copy of a row onto an empty one.
-/
import Derived.Test.YtfanpbbgnlllgaaRegFacts
import Derived.Deep.AppendSrc
import Derived.Deep.Upon
namespace Go.Proofs.Ytfanpbbgnlllgaa
open Go.RowKit

/-- all that there was is as it was -/
def Lat (w w' : World) : Prop := Below w.heap.size w w'
theorem Lat.refl (w : World) : Lat w w := Below.refl _ w
theorem Lat.trans {w w' w'' : World} (h : Lat w w') (h' : Lat w' w'') : Lat w w'' := Below.trans h (Below.mono h' h.size)

theorem Lat.of_drew {w w' : World} (h : Lat w.drew w') : Lat w w' := ⟨h.os, h.tape, h.output, h.size, h.block⟩

theorem StepF.val {P : Program} {ops : Array Oper} {R : World → World → Prop} {c : Value} {vf : Nat → Value} {o : Oper} {a : Act} {w : World} (hw : Region.wanted o (yielded ops a.tmps) = true) (h : ∀ K : Act → World → Prop, (∀ w', R w w' → K (a.put o.dst c) w') → o.wp P a w K (fun _ _ _ => False)) : StepF P ops R (.val c) vf o a w := by
  unfold StepF; rw [if_pos hw]; exact h _ fun w' hR => ⟨c, rfl, hR, rfl⟩
theorem StepF.fact {P : Program} {ops : Array Oper} {R : World → World → Prop} {F : Value → World → Prop} {vf : Nat → Value} {o : Oper} {a : Act} {w : World} (hw : Region.wanted o (yielded ops a.tmps) = true) (h : ∀ K : Act → World → Prop, (∀ u w', R w w' → F u w' → K (a.put o.dst u) w') → o.wp P a w K (fun _ _ _ => False)) : StepF P ops R (.fact F) vf o a w := by
  unfold StepF; rw [if_pos hw]; exact h _ fun u w' hR hF => ⟨u, rfl, hR, hF⟩
theorem StepF.rel {P : Program} {ops : Array Oper} {R : World → World → Prop} {G : (Nat → Value) → Value → World → Prop} {vf : Nat → Value} {o : Oper} {a : Act} {w : World} (hw : Region.wanted o (yielded ops a.tmps) = true) (h : ∀ K : Act → World → Prop, (∀ u w', R w w' → G vf u w' → K (a.put o.dst u) w') → o.wp P a w K (fun _ _ _ => False)) : StepF P ops R (.rel G) vf o a w := by
  unfold StepF; rw [if_pos hw]; exact h _ fun u w' hR hF => ⟨u, rfl, hR, hF⟩

theorem wpFacts_val {P : Program} {ops : Array Oper} {w0 : World} {Q : Exit → Act → World → Prop} {all ss : List Spec} {tl : List Oper} {c : Value} {o : Oper} {rest : List Oper} {vs : List Value} {a : Act} (hw : Region.wanted o (yielded ops a.tmps) = true)
    (h1 : ∀ w, Lat w0 w → depsHold all vs w o.after.toList → ∀ K : Act → World → Prop, (∀ w', Lat w w' → K (a.put o.dst c) w') → o.wp P a w K (fun _ _ _ => False)) (h2 : wpFacts P ops Lat w0 Q all tl ss rest (vs ++ [c]) (a.put o.dst c)) : wpFacts P ops Lat w0 Q all tl (.val c :: ss) (o :: rest) vs a :=
  ⟨fun w hR hd => StepF.val hw (h1 w hR hd), h2⟩
theorem wpFacts_fact {P : Program} {ops : Array Oper} {w0 : World} {Q : Exit → Act → World → Prop} {all ss : List Spec} {tl : List Oper} {F : Value → World → Prop} {o : Oper} {rest : List Oper} {vs : List Value} {a : Act} (hw : Region.wanted o (yielded ops a.tmps) = true)
    (h1 : ∀ w, Lat w0 w → depsHold all vs w o.after.toList → ∀ K : Act → World → Prop, (∀ u w', Lat w w' → F u w' → K (a.put o.dst u) w') → o.wp P a w K (fun _ _ _ => False)) (h2 : ∀ u, wpFacts P ops Lat w0 Q all tl ss rest (vs ++ [u]) (a.put o.dst u)) : wpFacts P ops Lat w0 Q all tl (.fact F :: ss) (o :: rest) vs a :=
  ⟨fun w hR hd => StepF.fact hw (h1 w hR hd), h2⟩
theorem wpFacts_rel {P : Program} {ops : Array Oper} {w0 : World} {Q : Exit → Act → World → Prop} {all ss : List Spec} {tl : List Oper} {G : (Nat → Value) → Value → World → Prop} {o : Oper} {rest : List Oper} {vs : List Value} {a : Act} (hw : Region.wanted o (yielded ops a.tmps) = true)
    (h1 : ∀ w, Lat w0 w → depsHold all vs w o.after.toList → ∀ K : Act → World → Prop, (∀ u w', Lat w w' → G (atD vs) u w' → K (a.put o.dst u) w') → o.wp P a w K (fun _ _ _ => False)) (h2 : ∀ u, wpFacts P ops Lat w0 Q all tl ss rest (vs ++ [u]) (a.put o.dst u)) : wpFacts P ops Lat w0 Q all tl (.rel G :: ss) (o :: rest) vs a :=
  ⟨fun w hR hd => StepF.rel hw (h1 w hR hd), h2⟩

theorem allHold_get {w : World} {vf : Nat → Value} : ∀ {ss : List Spec} {vs : List Value} (i : Nat) {s : Spec} {v : Value}, allHold w vf ss vs → ss[i]? = some s → vs[i]? = some v → s.holds vf v w
  | [], _, i, s, v, _, h, _ => by simp at h
  | _ :: _, [], i, s, v, _, _, h => by simp at h
  | s' :: ss, v' :: vs, 0, s, v, h, h1, h2 => by
    cases Option.some.inj h1
    cases Option.some.inj h2
    exact h.1
  | s' :: ss, v' :: vs, i + 1, s, v, h, h1, h2 => allHold_get i h.2 (by simpa using h1) (by simpa using h2)

theorem wpFacts_norm {P : Program} {ops : Array Oper} {w0 : World} {Q : Exit → Act → World → Prop} {all ss : List Spec} {tl : List Oper} {rest : List Oper} {vs vs' : List Value} {a a' : Act} (ha : a = a') (hv : vs = vs') (h : wpFacts P ops Lat w0 Q all tl ss rest vs' a') : wpFacts P ops Lat w0 Q all tl ss rest vs a := by rw [ha, hv]; exact h

theorem wp_region_lat {P : Program} {id : Nat} {Q : Exit → Act → World → Prop} {a : Act} {w : World} {l : List Oper} (ss : List Spec) (tl : List Oper) (hm : P.follows .mixedOrders = true) (hF : factsB l.toArray (ss.map Spec.isDone) [] (Array.replicate l.toArray.size false) l.toArray.size = true)
    (htl : tailOps l.toArray (fun i => ([] : List Nat).contains i) (l.toArray.size - ss.length) ss.length = tl) (hk : specsKept Lat l.toArray 0 ss) (h : wpFacts P l.toArray Lat w.drew Q ss tl ss l [] a) : (Code.region id l.toArray true).wp P Q a w :=
  wp_region_facts Lat ss tl hm hF htl Lat.refl (fun _ _ _ => Lat.trans) hk h
theorem wpAny_lat {P : Program} {Q : Exit → Act → World → Prop} {a : Act} {w0 : World} {l : List Oper} {listed0 : Array Bool} {fuel0 : Nat} (ss : List Spec) (Dl : List Nat) (tl : List Oper) (hF : factsB l.toArray (ss.map Spec.isDone) Dl listed0 fuel0 = true)
    (htl : tailOps l.toArray (fun i => Dl.contains i) (l.toArray.size - ss.length) ss.length = tl) (hk : specsKept Lat l.toArray 0 ss) (h : wpFacts P l.toArray Lat w0 Q ss tl ss l [] a) : wpAny P .any l.toArray Q fuel0 listed0 a w0 :=
  wpAny_facts Lat ss Dl tl hF htl Lat.refl (fun _ _ _ => Lat.trans) hk h

/-- an empty row that the statement itself makes -/
def Empty (N : Nat) (e : TypeId) (v : Value) (w : World) : Prop := ∃ b, v = .slice (some ⟨b, 0, none⟩) 0 0 ∧ N ≤ b ∧ w.heap[b]? = some (.cells #[] e (0, 0))
theorem Empty.kept {N : Nat} {e : TypeId} : ∀ v w w', Lat w w' → Empty N e v w → Empty N e v w' := by
  rintro v w w' hL ⟨b, hv, hN, hb⟩
  exact ⟨b, hv, hN, by rw [hL.block _ (Array.getElem?_eq_some_iff.1 hb).1]; exact hb⟩
theorem Empty.new (N : Nat) (e : TypeId) (w : World) (h : N ≤ w.heap.size) : Empty N e (.slice (some ⟨w.heap.size, 0, none⟩) 0 0) (w.alloc (.cells #[] e)) := ⟨_, rfl, h, heap_alloc_new w _⟩

theorem ownsRow_kept {N : Nat} {e : TypeId} {z n : Nat} {xs : List Value} : ∀ v w w', Lat w w' → World.ownsRow w N e z v n xs → World.ownsRow w' N e z v n xs := fun _ _ _ hL h => ownsRow_below h hL

/-- append of a row onto an empty one: a row of one's own -/
theorem wp_copy {P : Program} {o : Oper} {a : Act} {w : World} {K : Act → World → Prop} {Q : Exit → Act → World → Prop} (s x : Operand) (t : TypeId) (ho : o.op = .call { callee := .builtin .append, args := #[s, x], argTypes := #[t, t] })
    (e : TypeId) (i : TypeInfo) (z : Value) (size bytes : Nat) (ht : P.underlying t = some (.slice e)) (hi : P.info? e = some i) (hz : i.zero = some z) (hsize : i.size = size) (hby : i.bytes = bytes) (hzs : z.cells.size = size)
    (N : Nat) (v : Value) (hs : a.eval s = v) (hE : Empty N e v w) (y : Value) (m : Nat) (vs : List Value) (hx : a.eval x = y) (hsrc : Src P size t y m vs w) (h63 : m ≤ maxLen) (hbytes : m * bytes ≤ 140737488355328)
    (h : ∀ v' w', Lat w w' → w'.ownsRow N e size v' m vs → (0 < m → v'.ownBlock = some w.heap.size) → K (a.put o.dst v') w') : o.wp P a w K Q := by
  subst hsize
  subst hby
  obtain ⟨b, rfl, hN, hb⟩ := hE
  have hlen := hsrc.newsLen
  have hbw := (Array.getElem?_eq_some_iff.1 hb).1
  unfold Oper.wp execOp
  by_cases hm : m = 0
  · subst hm
    have hvs : vs = [] := List.eq_nil_of_length_eq_zero (by simpa using hlen)
    subst hvs
    have hr := run_append_nothing (P := P) w t t o.type e i ht hi (some ⟨b, 0, none⟩) 0 0 (Nat.le_refl _) y hsrc
    simp only [ho, resolve, invoke, builtin, Sem.run_bind, Sem.run_pure, Result.andThen_ok, List.map_toArray, List.map_cons, List.map_nil, hs, hx, hr]
    exact h _ _ (Lat.refl _) ⟨by simp, .inr ⟨b, 0, #[], rfl, hN, hb, Nat.le_refl _, Nat.zero_le _, by simp, by simp⟩⟩ (fun h0 => by omega)
  · have hold : (Builtin.firstCells i.size 0 (.slice (some ⟨b, 0, none⟩) 0 0)).run P w.drew = .ok ([] : List Value).toArray w.drew := run_firstCells_some w.drew i.size 0 ⟨b, 0, none⟩ 0 0 [] (by simp) (by simp)
    have h63' : ((0 + m : Nat) : Int) ≤ 9223372036854775807 := by unfold maxLen at h63; omega
    have hr := run_append_grow_src (P := P) w t t o.type e i z ht hi hz (some ⟨b, 0, none⟩) 0 0 [] hold y m vs hsrc (by omega) h63' (growslice_fits (by omega) (by rw [Nat.zero_add]; exact hbytes))
    simp only [ho, resolve, invoke, builtin, Sem.run_bind, Sem.run_pure, Result.andThen_ok, List.map_toArray, List.map_cons, List.map_nil, hs, hx, hr]
    refine h _ _ (((Below.refl _ w).drew).alloc (Nat.le_refl _) _) ?_ (fun _ => rfl)
    refine ⟨hlen, .inr ⟨w.heap.size, grownCap w (0 + m) 0 e, _, by rw [Nat.zero_add], by omega, heap_alloc_new w.drew _, ?_, grownCap_le_maxLen w _ _ e (by omega), ?_, ?_⟩⟩
    · have := grownCap_ge w (0 + m) 0 e; omega
    · have := grownCap_ge w (0 + m) 0 e
      simp only [Array.size_append, List.size_toArray, size_zeroCells, hzs, List.nil_append, hlen, ← Nat.add_mul]
      congr 1
      omega
    · simp only [Array.toList_append, List.nil_append]
      rw [← hlen]
      exact List.take_left
end Go.Proofs.Ytfanpbbgnlllgaa
