/-
  A region that draws its order, each of whose first operations leaves all that there was: ONE walk, in the order of the text, where of each operation's value a fact is told that later worlds keep. The last operations (each behind all ahead of it) are walked as they stand. Operations that were taken first are left out.
  For regions that draw their order and make memory: the steps of such a walk; a copy of a row onto an empty one.
-/
import Derived.Test.YtdocbgfpnaiijaaGrQuiet
import Derived.Deep.AppendSrc
import Derived.Deep.Upon
namespace Go.Proofs.Ytdocbgfpnaiijaa
open Go.RowKit

/-- what is told of an operation's value: the value itself, or a fact that later worlds keep -/
inductive Spec where
  | val (c : Value)
  | fact (F : Value → World → Prop)
  | rel (G : (Nat → Value) → Value → World → Prop)
  | done
def Spec.isDone : Spec → Bool
  | .done => true
  | _ => false
def Spec.holds : Spec → (Nat → Value) → Value → World → Prop
  | .val c, _, v, _ => v = c
  | .fact F, _, v, w => F v w
  | .rel G, vf, v, w => G vf v w
  | .done, _, _, _ => True
/-- an operation waits for another one -/
def depOn (ops : Array Oper) (k i : Nat) : Prop := ∃ o e, ops[k]? = some o ∧ e ∈ o.after ∧ Region.binds .any e = true ∧ e.on = i
def atD (vs : List Value) : Nat → Value := fun i => vs.getD i undef

def specsKept (R : World → World → Prop) (ops : Array Oper) : Nat → List Spec → Prop
  | _, [] => True
  | k, .val _ :: r => specsKept R ops (k + 1) r
  | k, .fact F :: r => (∀ v w w', R w w' → F v w → F v w') ∧ specsKept R ops (k + 1) r
  | k, .rel G :: r => (∀ vf v w w', R w w' → G vf v w → G vf v w') ∧ (∀ vf vf' v w, (∀ i, depOn ops k i → vf i = vf' i) → G vf v w → G vf' v w) ∧ specsKept R ops (k + 1) r
  | k, .done :: r => specsKept R ops (k + 1) r

def depsHold (ss : List Spec) (vs : List Value) (w : World) : List Edge → Prop
  | [] => True
  | e :: r => (match Region.binds .any e with | true => (match ss[e.on]? with | some s => s.holds (atD vs) (atD vs e.on) w | none => True) | false => True) ∧ depsHold ss vs w r
def allHold (w : World) (vf : Nat → Value) : List Spec → List Value → Prop
  | s :: ss, v :: vs => s.holds vf v w ∧ allHold w vf ss vs
  | _, _ => True

def StepF (P : Program) (ops : Array Oper) (R : World → World → Prop) (s : Spec) (vf : Nat → Value) (o : Oper) (a : Act) (w : World) : Prop :=
  if Region.wanted o (yielded ops a.tmps) = true then o.wp P a w (fun a' w' => ∃ u, a' = a.put o.dst u ∧ R w w' ∧ s.holds vf u w') (fun _ _ _ => False) else s.holds vf undef w

def wpFacts (P : Program) (ops : Array Oper) (R : World → World → Prop) (w0 : World) (Q : Exit → Act → World → Prop) (all : List Spec) (tl : List Oper) : List Spec → List Oper → List Value → Act → Prop
  | [], _, vs, a => ∀ w, R w0 w → allHold w (atD vs) all vs → wpList P ops Q tl a w
  | _ :: _, [], _, _ => False
  | .val c :: ss, o :: rest, vs, a => (∀ w, R w0 w → depsHold all vs w o.after.toList → StepF P ops R (.val c) (atD vs) o a w) ∧ wpFacts P ops R w0 Q all tl ss rest (vs ++ [c]) (a.put o.dst c)
  | .fact F :: ss, o :: rest, vs, a => (∀ w, R w0 w → depsHold all vs w o.after.toList → StepF P ops R (.fact F) (atD vs) o a w) ∧ ∀ u, wpFacts P ops R w0 Q all tl ss rest (vs ++ [u]) (a.put o.dst u)
  | .rel G :: ss, o :: rest, vs, a => (∀ w, R w0 w → depsHold all vs w o.after.toList → StepF P ops R (.rel G) (atD vs) o a w) ∧ ∀ u, wpFacts P ops R w0 Q all tl ss rest (vs ++ [u]) (a.put o.dst u)
  | .done :: ss, _ :: rest, vs, a => wpFacts P ops R w0 Q all tl ss rest (vs ++ [undef]) a

def dstOf (ops : Array Oper) (k : Nat) : Option Tmp := (ops[k]?).bind (·.dst)
def isAfter (o : Oper) (j : Nat) : Bool := o.after.any (fun e => Region.binds .any e && e.on == j)

/-- an operation waits for another one, by some steps -/
inductive Anc (ops : Array Oper) : Nat → Nat → Prop
  | one {i j : Nat} {o : Oper} {e : Edge} : ops[i]? = some o → e ∈ o.after → Region.binds .any e = true → e.on = j → Anc ops i j
  | more {i j k : Nat} {o : Oper} {e : Edge} : ops[i]? = some o → e ∈ o.after → Region.binds .any e = true → e.on = k → Anc ops k j → Anc ops i j

/-- for whom an operation waits, as bits -/
def orAll (ms : List Nat) : List Edge → Nat
  | [] => 0
  | e :: r => (if Region.binds .any e then (1 <<< e.on) ||| ms.getD e.on 0 else 0) ||| orAll ms r
def masks (ops : Array Oper) : Nat → List Nat
  | 0 => []
  | k + 1 => masks ops k ++ [match ops[k]? with | some o => orAll (masks ops k) o.after.toList | none => 0]

theorem orAll_bit {ms : List Nat} {j : Nat} : ∀ {l : List Edge}, (orAll ms l).testBit j = true → ∃ e ∈ l, Region.binds .any e = true ∧ (e.on = j ∨ (ms.getD e.on 0).testBit j = true)
  | [], h => by simp [orAll] at h
  | e :: r, h => by
    unfold orAll at h
    rw [Nat.testBit_or, Bool.or_eq_true] at h
    rcases h with h | h
    · cases hb : Region.binds .any e
      · rw [hb] at h; simp at h
      · rw [hb] at h
        simp only [if_true] at h
        rw [Nat.testBit_or, Bool.or_eq_true] at h
        rcases h with h | h
        · refine ⟨e, List.mem_cons_self, hb, .inl ?_⟩
          rw [Nat.testBit_shiftLeft, Bool.and_eq_true, decide_eq_true_eq] at h
          obtain ⟨h1, h2⟩ := h
          rw [Nat.testBit_one_eq_true_iff_self_eq_zero] at h2
          omega
        · exact ⟨e, List.mem_cons_self, hb, .inr h⟩
    · obtain ⟨e', he', h'⟩ := orAll_bit h
      exact ⟨e', List.mem_cons_of_mem _ he', h'⟩

theorem masks_len (ops : Array Oper) : ∀ k, (masks ops k).length = k
  | 0 => rfl
  | k + 1 => by unfold masks; rw [List.length_append, masks_len ops k]; rfl
theorem masks_anc (ops : Array Oper) : ∀ k i j, ((masks ops k).getD i 0).testBit j = true → Anc ops i j
  | 0, i, j, h => by simp [masks] at h
  | k + 1, i, j, h => by
    unfold masks at h
    rcases Nat.lt_trichotomy i k with hik | hik | hik
    · rw [List.getD_eq_getElem?_getD, List.getElem?_append_left (by rw [masks_len]; exact hik), ← List.getD_eq_getElem?_getD] at h
      exact masks_anc ops k i j h
    · subst hik
      rw [List.getD_eq_getElem?_getD, List.getElem?_append_right (by rw [masks_len]; omega), masks_len, Nat.sub_self] at h
      simp only [List.getElem?_cons_zero, Option.getD_some] at h
      cases ho : ops[i]? with
      | none => rw [ho] at h; simp at h
      | some o =>
        rw [ho] at h
        obtain ⟨e, he, hb, h⟩ := orAll_bit h
        rcases h with h | h
        · exact .one ho (by simpa using he) hb h
        · exact .more ho (by simpa using he) hb rfl (masks_anc ops i _ j h)
    · rw [List.getD_eq_getElem?_getD, List.getElem?_eq_none (by rw [List.length_append, masks_len]; simp; omega)] at h
      simp at h

def cntN (L : Nat → Bool) : Nat → Nat
  | 0 => 0
  | k + 1 => cntN L k + if L k then 0 else 1

/-- what a program looks at ahead -/
def factsB (ops : Array Oper) (sd : List Bool) (Dl : List Nat) (listed : Array Bool) (fuel : Nat) : Bool :=
  Region.noSelect ops && decide (sd.length ≤ ops.size) && decide (listed.size = ops.size) && decide (cntN (fun j => listed.getD j true) ops.size ≤ fuel) &&
  ((List.range ops.size).all fun i => listed.getD i true == Dl.contains i) && ((List.range sd.length).all fun i => sd.getD i false == Dl.contains i) &&
  (let ms := masks ops ops.size
   (List.range ops.size).all fun i => match ops[i]? with
    | none => true
    | some oi =>
      (oi.after.toList.all fun e => !Region.binds .any e || (decide (e.on < i) && (!Dl.contains i || Dl.contains e.on))) &&
      ((List.range ops.size).all fun j => j == i || match ops[j]? with
        | none => true
        | some oj => match oj.dst with
          | none => true
          | some d => (oi.dst != some d) && (!(oi.looksAt ops).contains d || Dl.contains j || (decide (j < i) && isAfter oi j) || (decide (i < j) && isAfter oj i))) &&
      (decide (i < sd.length) || Dl.contains i || (List.range i).all fun j => Dl.contains j || (ms.getD i 0).testBit j))

theorem isAfter_mem {o : Oper} {j : Nat} (h : isAfter o j = true) : ∃ e ∈ o.after, Region.binds .any e = true ∧ e.on = j := by
  unfold isAfter at h
  rw [Array.any_eq_true] at h
  obtain ⟨k, hk, h⟩ := h
  rw [Bool.and_eq_true, beq_iff_eq] at h
  exact ⟨_, Array.getElem_mem hk, h⟩

structure FB (ops : Array Oper) (sd : List Bool) (D : Nat → Bool) (listed : Array Bool) (fuel : Nat) : Prop where
  sel : Region.noSelect ops = true
  le : sd.length ≤ ops.size
  lsz : listed.size = ops.size
  cnt : cntN (fun j => listed.getD j true) ops.size ≤ fuel
  l0 : ∀ i, i < ops.size → listed.getD i true = D i
  sdn : ∀ i, i < sd.length → sd.getD i false = D i
  dep : ∀ i o, ops[i]? = some o → ∀ e ∈ o.after, Region.binds .any e = true → e.on < i ∧ (D i = true → D e.on = true)
  dst : ∀ i j, i ≠ j → ∀ d, dstOf ops j = some d → dstOf ops i ≠ some d
  look : ∀ i j oi d, i ≠ j → ops[i]? = some oi → dstOf ops j = some d → d ∈ oi.looksAt ops → D j = true ∨ (j < i ∧ ∃ e ∈ oi.after, Region.binds .any e = true ∧ e.on = j) ∨ (i < j ∧ ∃ oj, ops[j]? = some oj ∧ ∃ e ∈ oj.after, Region.binds .any e = true ∧ e.on = i)
  tail : ∀ i o, ops[i]? = some o → sd.length ≤ i → D i = false → ∀ j, j < i → D j = false → Anc ops i j

theorem FB.of {ops : Array Oper} {sd : List Bool} {Dl : List Nat} {listed : Array Bool} {fuel : Nat} (h : factsB ops sd Dl listed fuel = true) : FB ops sd (fun i => Dl.contains i) listed fuel := by
  unfold factsB at h
  simp only [Bool.and_eq_true, decide_eq_true_eq, List.all_eq_true, List.mem_range] at h
  obtain ⟨⟨⟨⟨⟨⟨h1, h2⟩, hz⟩, hc⟩, hl0⟩, hsd⟩, h3⟩ := h
  have lt : ∀ {i : Nat} {o : Oper}, ops[i]? = some o → i < ops.size := fun h => (Array.getElem?_eq_some_iff.1 h).1
  have key : ∀ i oi, ops[i]? = some oi → ((∀ e ∈ oi.after, Region.binds .any e = true → e.on < i ∧ (Dl.contains i = true → Dl.contains e.on = true)) ∧ (∀ j oj d, j ≠ i → ops[j]? = some oj → oj.dst = some d → oi.dst ≠ some d ∧ (d ∈ oi.looksAt ops → Dl.contains j = true ∨ (j < i ∧ isAfter oi j = true) ∨ (i < j ∧ isAfter oj i = true))) ∧ (sd.length ≤ i → Dl.contains i = false → ∀ j, j < i → Dl.contains j = false → ((masks ops ops.size).getD i 0).testBit j = true)) := by
    intro i oi hi
    have h4 := h3 i (lt hi)
    simp only [hi, Bool.and_eq_true, List.all_eq_true, Bool.or_eq_true, decide_eq_true_eq, Bool.not_eq_true', List.mem_range] at h4
    obtain ⟨⟨h5, h6⟩, h7⟩ := h4
    refine ⟨fun e he hb => ?_, fun j oj d hji hj hd => ?_, fun hm hdi j hj hdj => ?_⟩
    · rcases h5 e (by simpa using he) with h | h
      · rw [hb] at h; cases h
      · refine ⟨h.1, fun hdi => ?_⟩
        rcases h.2 with h | h
        · rw [hdi] at h; cases h
        · exact h
    · rcases h6 j (lt hj) with h | h
      · exact absurd (beq_iff_eq.1 h) hji
      · simp only [hj, hd, Bool.and_eq_true, Bool.or_eq_true, bne_iff_ne, decide_eq_true_eq, Bool.not_eq_true'] at h
        refine ⟨h.1, fun hl => ?_⟩
        rcases h.2 with ((h | h) | h) | h
        · rw [List.contains_iff_mem.2 hl] at h; cases h
        · exact .inl h
        · exact .inr (.inl h)
        · exact .inr (.inr h)
    · rcases h7 with (h | h) | h
      · omega
      · rw [hdi] at h; cases h
      · rcases h j hj with h | h
        · rw [hdj] at h; cases h
        · exact h
  refine ⟨h1, h2, hz, hc, fun i hi => by simpa using hl0 i hi, fun i hi => by simpa using hsd i hi, fun i o hi => (key i o hi).1, fun i j hij d hd hdi => ?_, fun i j oi d hij hi hd hl => ?_, fun i o hi hm hdi j hj hdj => masks_anc ops _ i j ((key i o hi).2.2 hm hdi j hj hdj)⟩
  · unfold dstOf at hd hdi
    cases hj : ops[j]? with
    | none => rw [hj] at hd; cases hd
    | some oj =>
      cases hi : ops[i]? with
      | none => rw [hi] at hdi; cases hdi
      | some oi =>
        rw [hj] at hd; rw [hi] at hdi
        exact ((key i oi hi).2.1 j oj d (Ne.symm hij) hj hd).1 hdi
  · unfold dstOf at hd
    cases hj : ops[j]? with
    | none => rw [hj] at hd; cases hd
    | some oj =>
      rw [hj] at hd
      rcases ((key i oi hi).2.1 j oj d (Ne.symm hij) hj hd).2 hl with h | ⟨h, h'⟩ | ⟨h, h'⟩
      · exact .inl h
      · exact .inr (.inl ⟨h, isAfter_mem h'⟩)
      · exact .inr (.inr ⟨h, oj, rfl, isAfter_mem h'⟩)

/-- all for whom an operation that may come up waits have come up -/
theorem anc_listed {ops : Array Oper} {listed : Array Bool} (hdown : ∀ j o, ops[j]? = some o → listed.getD j true = true → ∀ e ∈ o.after, Region.binds .any e = true → listed.getD e.on true = true) {i j : Nat} (h : Anc ops i j) :
    (∀ o, ops[i]? = some o → ∀ e ∈ o.after, Region.binds .any e = true → listed.getD e.on true = true) → listed.getD j true = true := by
  induction h with
  | one ho he hb hon => intro h; rw [← hon]; exact h _ ho _ he hb
  | more ho he hb hon _ ih =>
    intro h
    refine ih fun o' ho' e' he' hb' => hdown _ o' ho' ?_ e' he' hb'
    rw [← hon]; exact h _ ho _ he hb

/-- the frame with the values of those that have come up -/
def frN (ops : Array Oper) (L : Nat → Bool) (v : Nat → Value) (a : Act) : Nat → Act
  | 0 => a
  | k + 1 => if L k then (frN ops L v a k).put (dstOf ops k) (v k) else frN ops L v a k

def updL (L : Nat → Bool) (i : Nat) : Nat → Bool := fun j => if j = i then true else L j
def updV (v : Nat → Value) (i : Nat) (u : Value) : Nat → Value := fun j => if j = i then u else v j

theorem frN_set {ops : Array Oper} (hd : ∀ i j, i ≠ j → ∀ d, dstOf ops j = some d → dstOf ops i ≠ some d) (L : Nat → Bool) (v : Nat → Value) (a : Act) (i : Nat) (u : Value) (hL : L i = false) :
    ∀ k, frN ops (updL L i) (updV v i u) a k = if i < k then (frN ops L v a k).put (dstOf ops i) u else frN ops L v a k
  | 0 => rfl
  | k + 1 => by
    have ih := frN_set hd L v a i u hL k
    unfold frN
    rw [ih]
    by_cases hki : k = i
    · subst hki
      simp [updL, updV, hL]
    · have e1 : updL L i k = L k := by simp [updL, hki]
      have e2 : updV v i u k = v k := by simp [updV, hki]
      rw [e1, e2]
      by_cases hik : i < k
      · rw [if_pos hik, if_pos (show i < k + 1 by omega)]
        cases L k
        · rfl
        · simp only [if_true]
          exact Act.put_comm _ _ _ (fun d hdd => hd k i hki d hdd)
      · rw [if_neg hik, if_neg (show ¬ i < k + 1 by omega)]

theorem frN_tmps {ops : Array Oper} (L L' : Nat → Bool) (v : Nat → Value) (a : Act) (t : Tmp) (n k : Nat) (hkn : k ≤ n) (h : ∀ j, dstOf ops j = some t → (j < k → L j = L' j) ∧ (k ≤ j → L j = false)) :
    (frN ops L v a n).tmps[t]? = (frN ops L' v a k).tmps[t]? := by
  have e1 : ∀ k, (∀ j, dstOf ops j = some t → j < k → L j = L' j) → (frN ops L v a k).tmps[t]? = (frN ops L' v a k).tmps[t]? ∧ (frN ops L v a k).tmps.size = (frN ops L' v a k).tmps.size := by
    intro k
    induction k with
    | zero => intro _; exact ⟨rfl, rfl⟩
    | succ k ih =>
      intro hk
      obtain ⟨i1, i2⟩ := ih (fun j hj hjk => hk j hj (by omega))
      unfold frN
      by_cases hdt : dstOf ops k = some t
      · rw [hk k hdt (by omega), hdt]
        cases L' k
        · exact ⟨i1, i2⟩
        · simp only [if_true, Act.put]
          refine ⟨?_, by simpa using i2⟩
          rw [Array.getElem?_setIfInBounds, Array.getElem?_setIfInBounds, i2, i1]
      · have oth : ∀ (b : Bool) (x : Act), (if b = true then x.put (dstOf ops k) (v k) else x).tmps[t]? = x.tmps[t]? ∧ (if b = true then x.put (dstOf ops k) (v k) else x).tmps.size = x.tmps.size := by
          intro b x
          cases b
          · exact ⟨rfl, rfl⟩
          · simp only [if_true]
            cases hdk : dstOf ops k with
            | none => exact ⟨rfl, rfl⟩
            | some d =>
              have hne : d ≠ t := fun e => hdt (by rw [hdk, e])
              exact ⟨by simp [Act.put, Array.getElem?_setIfInBounds_ne hne], by simp [Act.put]⟩
        rw [(oth (L k) _).1, (oth (L' k) _).1, (oth (L k) _).2, (oth (L' k) _).2]
        exact ⟨i1, i2⟩
  have e2 : ∀ n, k ≤ n → (frN ops L v a n).tmps[t]? = (frN ops L v a k).tmps[t]? := by
    intro n hn
    induction n with
    | zero => have : k = 0 := by omega
              subst this; rfl
    | succ n ih =>
      by_cases hk : k = n + 1
      · subst hk; rfl
      · have hkn : k ≤ n := by omega
        rw [← ih hkn]
        conv => lhs; unfold frN
        cases hl : L n
        · rfl
        · simp only [if_true]
          cases hdk : dstOf ops n with
          | none => rfl
          | some d =>
            have hne : d ≠ t := fun e => by
              have := (h n (by rw [hdk, e])).2 hkn
              rw [hl] at this; cases this
            simp [Act.put, Array.getElem?_setIfInBounds_ne hne]
  rw [e2 n hkn]
  exact (e1 k (fun j hj hjk => (h j hj).1 hjk)).1

theorem frN_defers (ops : Array Oper) (L : Nat → Bool) (v : Nat → Value) (a : Act) : ∀ k, (frN ops L v a k).defers = a.defers
  | 0 => rfl
  | k + 1 => by
    have := frN_defers ops L v a k
    unfold frN
    cases L k
    · exact this
    · simp only [if_true]
      cases dstOf ops k <;> simpa [Act.put] using this

theorem frN_size (ops : Array Oper) (L : Nat → Bool) (v : Nat → Value) (a : Act) : ∀ k, (frN ops L v a k).tmps.size = a.tmps.size
  | 0 => rfl
  | k + 1 => by
    have := frN_size ops L v a k
    unfold frN
    cases L k
    · exact this
    · simp only [if_true]
      cases dstOf ops k <;> simpa [Act.put] using this

theorem put_same {a a' : Act} {d : Option Tmp} {u u' : Value} (h : a.put d u = a.put d u') (hs : a'.tmps.size = a.tmps.size) : a'.put d u = a'.put d u' := by
  cases d with
  | none => rfl
  | some t =>
    rcases Nat.lt_or_ge t a.tmps.size with hlt | hge
    · have := congrArg (fun x : Act => x.tmps[t]?) h
      simp [Act.put, hlt] at this
      rw [this]
    · have hge' : a'.tmps.size ≤ t := by rw [hs]; exact hge
      simp [Act.put, Array.setIfInBounds, Nat.not_lt.2 hge']

def topL (D : Nat → Bool) : Nat → Bool := fun j => !D j
def Cons (ss : List Spec) (v : Nat → Value) : Prop := (∀ i c, ss[i]? = some (.val c) → v i = c) ∧ ∀ i, ss[i]? = some .done → v i = undef

theorem depsHold_of {ss : List Spec} {vs : List Value} {w : World} : ∀ {l : List Edge}, (∀ e ∈ l, Region.binds .any e = true → ∀ s, ss[e.on]? = some s → s.holds (atD vs) (atD vs e.on) w) → depsHold ss vs w l
  | [], _ => trivial
  | e :: r, h => by
    refine ⟨?_, depsHold_of fun e' he' => h e' (List.mem_cons_of_mem _ he')⟩
    cases hb : Region.binds .any e
    · trivial
    · simp only
      cases hs : ss[e.on]? with
      | none => trivial
      | some s => exact h e List.mem_cons_self hb s hs

theorem allHold_of {w : World} {vf : Nat → Value} : ∀ {ss : List Spec} {vs : List Value}, (∀ (i : Nat) (s : Spec) (v : Value), ss[i]? = some s → vs[i]? = some v → s.holds vf v w) → allHold w vf ss vs
  | [], _, _ => by unfold allHold; trivial
  | _ :: _, [], _ => by unfold allHold; trivial
  | s :: ss, v :: vs, h => ⟨h 0 s v rfl rfl, allHold_of fun i s' v' h1 h2 => h (i + 1) s' v' (by simpa using h1) (by simpa using h2)⟩

theorem wpFacts_out {P : Program} {ops : Array Oper} {R : World → World → Prop} {w0 : World} {Q : Exit → Act → World → Prop} {all : List Spec} {tl : List Oper} {a : Act} {D : Nat → Bool} (hD : ∀ i s, all[i]? = some s → s.isDone = D i)
    (hloc : ∀ (i : Nat) (s : Spec), all[i]? = some s → ∀ vf vf' u w, (∀ j, depOn ops i j → vf j = vf' j) → s.holds vf u w → s.holds vf' u w) (hlt : ∀ i j, depOn ops i j → j < i) (v : Nat → Value) (hv : Cons all v) : ∀ (ss : List Spec) (k : Nat) (vs : List Value), all.drop k = ss → k + ss.length = all.length → all.length ≤ ops.size → vs.length = k → (∀ i, i < k → atD vs i = v i) →
    wpFacts P ops R w0 Q all tl ss (ops.toList.drop k) vs (frN ops (topL D) v a k) →
    (∀ i o s, k ≤ i → ops[i]? = some o → all[i]? = some s → D i = false → ∀ w, R w0 w → (∀ e ∈ o.after, Region.binds .any e = true → ∀ s', all[e.on]? = some s' → s'.holds v (v e.on) w) → StepF P ops R s v o (frN ops (topL D) v a i) w) ∧
    (∀ w, R w0 w → (∀ (i : Nat) (s : Spec), all[i]? = some s → s.holds v (v i) w) → wpList P ops Q tl (frN ops (topL D) v a all.length) w)
  | [], k, vs, _, hk, _, hvl, hvs, h => by
    have e : k = all.length := by simpa using hk
    subst e
    refine ⟨fun i o s hi _ hs => ?_, fun w hw ha => h w hw (allHold_of fun i s u hs hu => ?_)⟩
    · have := (List.getElem?_eq_some_iff.1 hs).1
      omega
    · have hi := (List.getElem?_eq_some_iff.1 hs).1
      have hui : u = v i := by
        have := hvs i hi
        unfold atD at this
        rw [List.getD_eq_getElem?_getD, hu, Option.getD_some] at this
        exact this
      rw [hui]
      refine hloc i s hs v _ _ w (fun j hj => ?_) (ha i s hs)
      exact (hvs j (by have := hlt i j hj; omega)).symm
  | s :: ss, k, vs, hd, hk, hn, hvl, hvs, h => by
    have hkl : k < all.length := by simp at hk; omega
    have hko : k < ops.toList.length := by simp; omega
    have hs : all[k]? = some s := by
      have := congrArg (·[0]?) hd
      simpa using this
    have hd' : all.drop (k + 1) = ss := by
      have := congrArg List.tail hd
      simpa using this
    rw [List.drop_eq_getElem_cons hko] at h
    have ho : ops[k]? = some (ops.toList[k]) := by simp at hko; simp [hko]
    have hdst : (ops.toList[k]).dst = dstOf ops k := by unfold dstOf; rw [ho]; rfl
    have hDk := hD k s hs
    have vs' : ∀ u, v k = u → ∀ i, i < k + 1 → atD (vs ++ [u]) i = v i := by
      intro u hu i hi
      unfold atD
      by_cases hik : i = k
      · subst hik
        rw [List.getD_eq_getElem?_getD, List.getElem?_append_right (by omega), hvl, Nat.sub_self]
        exact hu.symm
      · rw [List.getD_eq_getElem?_getD, List.getElem?_append_left (by omega), ← List.getD_eq_getElem?_getD]
        exact hvs i (by omega)
    have hdk : ∀ j, depOn ops k j → atD vs j = v j := fun j hj => hvs j (hlt k j hj)
    have fin : ∀ u, s.isDone = false → v k = u → wpFacts P ops R w0 Q all tl ss (ops.toList.drop (k + 1)) (vs ++ [u]) ((frN ops (topL D) v a k).put (ops.toList[k]).dst u) →
        (∀ w, R w0 w → depsHold all vs w (ops.toList[k]).after.toList → StepF P ops R s (atD vs) (ops.toList[k]) (frN ops (topL D) v a k) w) →
        (∀ i o s, k ≤ i → ops[i]? = some o → all[i]? = some s → D i = false → ∀ w, R w0 w → (∀ e ∈ o.after, Region.binds .any e = true → ∀ s', all[e.on]? = some s' → s'.holds v (v e.on) w) → StepF P ops R s v o (frN ops (topL D) v a i) w) ∧
        (∀ w, R w0 w → (∀ (i : Nat) (s : Spec), all[i]? = some s → s.holds v (v i) w) → wpList P ops Q tl (frN ops (topL D) v a all.length) w) := by
      intro u hnd hu hw hst
      rw [hnd] at hDk
      have efr : (frN ops (topL D) v a k).put (dstOf ops k) u = frN ops (topL D) v a (k + 1) := by
        conv => rhs; unfold frN
        rw [show topL D k = true from by unfold topL; rw [← hDk]; rfl, if_pos rfl, hu]
      rw [hdst, efr] at hw
      obtain ⟨h1, h2⟩ := wpFacts_out hD hloc hlt v hv ss (k + 1) (vs ++ [u]) hd' (by simp at hk; omega) hn (by simp [hvl]) (vs' u hu) hw
      refine ⟨fun i o s' hi hoi hsi hdi w hRw hde => ?_, h2⟩
      by_cases hik : i = k
      · subst hik
        rw [ho] at hoi; rw [hs] at hsi
        cases hoi; cases hsi
        have := hst w hRw (depsHold_of fun e he hb s' hs' => by
          have hon : depOn ops i e.on := ⟨_, e, ho, by simpa using he, hb, rfl⟩
          rw [hdk e.on hon]
          refine hloc e.on s' hs' v _ _ w (fun j hj => ?_) (hde e (by simpa using he) hb s' hs')
          exact (hvs j (by have := hlt _ _ hj; have := hlt _ _ hon; omega)).symm)
        unfold StepF at this ⊢
        split
        · rename_i hw
          rw [if_pos hw] at this
          exact Oper.wp_mono (fun a' w' ⟨u', e1, e2, e3⟩ => ⟨u', e1, e2, hloc i s hs _ _ _ _ hdk e3⟩) this
        · rename_i hw
          rw [if_neg hw] at this
          exact hloc i s hs _ _ _ _ hdk this
      · exact h1 i o s' (by omega) hoi hsi hdi w hRw hde
    cases s with
    | val c => exact fin c rfl (hv.1 k c hs) h.2 h.1
    | fact F => exact fin (v k) rfl rfl (h.2 (v k)) h.1
    | rel G => exact fin (v k) rfl rfl (h.2 (v k)) h.1
    | done =>
      have hDk' : D k = true := hDk.symm
      have efr : frN ops (topL D) v a (k + 1) = frN ops (topL D) v a k := by
        conv => lhs; unfold frN
        rw [show topL D k = false from by unfold topL; rw [hDk']; rfl]; rfl
      obtain ⟨h1, h2⟩ := wpFacts_out hD hloc hlt v hv ss (k + 1) (vs ++ [undef]) hd' (by simp at hk; omega) hn (by simp [hvl]) (vs' undef (hv.2 k hs)) (by rw [efr]; exact h)
      refine ⟨fun i o s' hi hoi hsi hdi w hRw hde => ?_, h2⟩
      by_cases hik : i = k
      · subst hik; rw [hDk'] at hdi; cases hdi
      · exact h1 i o s' (by omega) hoi hsi hdi w hRw hde

theorem specsKept_get {R : World → World → Prop} {ops : Array Oper} : ∀ {ss : List Spec} {k : Nat}, specsKept R ops k ss → ∀ (i : Nat) (s : Spec), ss[i]? = some s → (∀ vf v w w', R w w' → s.holds vf v w → s.holds vf v w') ∧ ∀ vf vf' v w, (∀ j, depOn ops (k + i) j → vf j = vf' j) → s.holds vf v w → s.holds vf' v w
  | [], _, _, i, s, h => by simp at h
  | .val c :: r, k, hk, 0, s, h => by
    cases Option.some.inj h
    exact ⟨fun _ _ _ _ _ h => h, fun _ _ _ _ _ h => h⟩
  | .fact F :: r, k, hk, 0, s, h => by
    cases Option.some.inj h
    exact ⟨fun _ => hk.1, fun _ _ _ _ _ h => h⟩
  | .rel G :: r, k, hk, 0, s, h => by
    cases Option.some.inj h
    exact ⟨hk.1, hk.2.1⟩
  | .done :: r, k, hk, 0, s, h => by
    cases Option.some.inj h
    exact ⟨fun _ _ _ _ _ h => h, fun _ _ _ _ _ h => h⟩
  | .val c :: r, k, hk, i + 1, s, h => by
    rw [show k + (i + 1) = (k + 1) + i from by omega]
    exact specsKept_get (ss := r) hk i s (by simpa using h)
  | .fact F :: r, k, hk, i + 1, s, h => by
    rw [show k + (i + 1) = (k + 1) + i from by omega]
    exact specsKept_get (ss := r) hk.2 i s (by simpa using h)
  | .rel F :: r, k, hk, i + 1, s, h => by
    rw [show k + (i + 1) = (k + 1) + i from by omega]
    exact specsKept_get (ss := r) hk.2.2 i s (by simpa using h)
  | .done :: r, k, hk, i + 1, s, h => by
    rw [show k + (i + 1) = (k + 1) + i from by omega]
    exact specsKept_get (ss := r) hk i s (by simpa using h)

/-- an operation, in a frame that reads the same to it -/
theorem Oper.wp_frame {P : Program} {o : Oper} {a a' : Act} {w : World} {K K' : Act → World → Prop} {Q : Exit → Act → World → Prop} (he : execOp a'.eval o = execOp a.eval o)
    (hK : ∀ u w', K (a.put o.dst u) w' → K' (a'.put o.dst u) w') (hdef : ∀ d w', ¬ K (({ a with defers := d :: a.defers } : Act).put o.dst undef) w') (h : o.wp P a w K (fun _ _ _ => False)) : o.wp P a' w K' Q := by
  unfold Oper.wp at *
  rw [he]
  generalize (execOp a.eval o).run P w = r at *
  cases r with
  | ok n w' =>
    cases n <;> simp only [Oper.upon] at h ⊢
    case value u => exact hK _ _ h
    case skip => exact hK _ _ h
    case defer d => exact absurd h (hdef d w')
    case enter f args =>
      refine Calls.mono h fun e w'' he => ?_
      cases e with
      | returned u => exact hK _ _ he
      | panicked c => exact he.elim
      | outgrown => obtain ⟨_, _, h⟩ := he; exact h.elim
    case row row args => exact Rows.mono h fun u w'' he => hK _ _ he
  | halt x w' =>
    cases x <;> simp only [Oper.upon] at h

theorem wanted_congr {ops : Array Oper} (o : Oper) (a a' : Act) (h : ∀ t ∈ o.looksAt ops, a'.tmps[t]? = a.tmps[t]?) : Region.wanted o (yielded ops a'.tmps) = Region.wanted o (yielded ops a.tmps) := by
  unfold Region.wanted
  cases hg : o.guard with
  | none => rfl
  | some gw =>
    obtain ⟨g, want⟩ := gw
    have hy : yielded ops a'.tmps g = yielded ops a.tmps g := by
      unfold yielded
      cases ht : (ops[g]?).bind (·.dst) with
      | none => rfl
      | some t => simp only [Option.bind_some]; rw [h t (by simp [Oper.looksAt, hg, ht])]
    simp only [hy]

theorem exec_congr {ops : Array Oper} (o : Oper) (hs : ∀ cs b, o.op ≠ .select cs b) (a a' : Act) (h : ∀ t ∈ o.looksAt ops, a'.tmps[t]? = a.tmps[t]?) : execOp a'.eval o = execOp a.eval o :=
  execOp_congr o hs fun x hx => by
    cases x with
    | tmp t =>
      have := h t (List.mem_append_left _ (List.mem_filterMap.2 ⟨.tmp t, by simpa using hx, rfl⟩))
      simp only [Act.eval, Array.getD_eq_getD_getElem?]
      rw [this]
    | const c => rfl
    | global g => rfl
    | func f => rfl

theorem cntN_set (L : Nat → Bool) (i : Nat) (h : L i = false) : ∀ k, cntN (updL L i) k + (if i < k then 1 else 0) = cntN L k
  | 0 => by simp [cntN]
  | k + 1 => by
    have ih := cntN_set L i h k
    unfold cntN
    by_cases hki : k = i
    · subst hki
      simp [updL, h] at ih ⊢
      omega
    · have e : updL L i k = L k := by simp [updL, hki]
      rw [e]
      by_cases hik : i < k
      · rw [if_pos hik] at ih; rw [if_pos (show i < k + 1 by omega)]; omega
      · rw [if_neg hik] at ih; rw [if_neg (show ¬ i < k + 1 by omega)]; omega
theorem cntN_zero (L : Nat → Bool) : ∀ k, cntN L k = 0 → ∀ j, j < k → L j = true
  | 0, _, j, hj => by omega
  | k + 1, h, j, hj => by
    unfold cntN at h
    by_cases hjk : j = k
    · subst hjk
      cases hl : L j
      · simp [hl] at h
      · rfl
    · exact cntN_zero L k (by omega) j (by omega)

theorem getD_updL {listed : Array Bool} {i : Nat} (hi : i < listed.size) : (fun j => (listed.setIfInBounds i true).getD j true) = updL (fun j => listed.getD j true) i := by
  funext j
  unfold updL
  by_cases h : j = i
  · subst h; simp [hi]
  · rw [if_neg h]; simp [Array.getElem?_setIfInBounds_ne (Ne.symm h)]

theorem getD_of_lt {listed : Array Bool} {j : Nat} (h : j < listed.size) : listed.getD j false = listed.getD j true := by simp [h]

/-- the last operations, but for those that were taken first -/
def tailOps (ops : Array Oper) (D : Nat → Bool) : Nat → Nat → List Oper
  | 0, _ => []
  | d + 1, k => match ops[k]? with
    | some o => if D k then tailOps ops D d (k + 1) else o :: tailOps ops D d (k + 1)
    | none => []

theorem wpAny_tail {P : Program} {ops : Array Oper} {Q : Exit → Act → World → Prop} {sd : List Bool} {D : Nat → Bool} {listed0 : Array Bool} {fuel0 : Nat} (hB : FB ops sd D listed0 fuel0) : ∀ (d fuel k : Nat) (listed : Array Bool) (a : Act) (w : World), k + d = ops.size → cntN (fun j => listed.getD j true) ops.size ≤ fuel → sd.length ≤ k → listed.size = ops.size →
    (∀ j o, ops[j]? = some o → listed.getD j true = true → ∀ e ∈ o.after, Region.binds .any e = true → listed.getD e.on true = true) → (∀ j, j < k → listed.getD j true = true) → (∀ j, k ≤ j → j < ops.size → listed.getD j true = D j) →
    wpList P ops Q (tailOps ops D d k) a w → wpAny P .any ops Q fuel listed a w := by
  intro d
  induction d with
  | zero =>
    intro fuel k listed a w hk _ _ hsz _ hl _ h
    have hready : Region.ready .any ops listed = [] := by
      apply List.eq_nil_iff_forall_not_mem.2
      intro j hj
      obtain ⟨h1, o, h2, _⟩ := mem_ready.1 hj
      have := (Array.getElem?_eq_some_iff.1 h2).1
      rw [hl j (by omega)] at h1; cases h1
    cases fuel with
    | zero => exact ⟨hready, h⟩
    | succ f => exact ⟨fun _ => h, fun i hi => by rw [hready] at hi; cases hi⟩
  | succ d ih =>
    intro fuel k listed a w hk hf hm hsz hdown hl hu h
    have hks : k < ops.size := by omega
    have ho : ops[k]? = some ops[k] := by simp [hks]
    unfold tailOps at h
    simp only [ho] at h
    cases hDk : D k
    · rw [hDk] at h
      simp only [Bool.false_eq_true, if_false] at h
      have huk : listed.getD k true = false := by rw [hu k (Nat.le_refl _) hks, hDk]
      obtain ⟨f, rfl⟩ : ∃ f, fuel = f + 1 := by
        refine ⟨fuel - 1, ?_⟩
        rcases Nat.eq_zero_or_pos fuel with h0 | h0
        · subst h0
          have : listed.getD k true = true := cntN_zero _ _ (Nat.le_zero.1 hf) k hks
          rw [huk] at this; cases this
        · omega
      have hrk : k ∈ Region.ready .any ops listed := mem_ready.2 ⟨huk, _, ho, fun e he hb => by
        have := (hB.dep k _ ho e he hb).1
        rw [getD_of_lt (by omega)]; exact hl _ this⟩
      refine ⟨fun h0 => (by rw [h0] at hrk; cases hrk), fun i hi => ?_⟩
      obtain ⟨h1, o, h2, h3⟩ := mem_ready.1 hi
      have his := (Array.getElem?_eq_some_iff.1 h2).1
      have hik : i = k := by
        rcases Nat.lt_trichotomy i k with h | h | h
        · rw [hl i h] at h1; cases h1
        · exact h
        · have hDi : D i = false := by rw [← hu i (by omega) his]; exact h1
          have := anc_listed hdown (hB.tail i o h2 (by omega) hDi k h hDk) (fun o' ho' e he hb => by
            rw [h2] at ho'; cases ho'
            have hlt := (hB.dep i o h2 e he hb).1
            have := h3 e he hb
            rw [getD_of_lt (by omega)] at this; exact this)
          rw [huk] at this; cases this
      subst hik
      unfold wpOp
      rw [ho]
      have nxt : ∀ a' w', wpList P ops Q (tailOps ops D d (i + 1)) a' w' → wpAny P .any ops Q f (listed.setIfInBounds i true) a' w' := fun a' w' h' => by
        have eu := getD_updL (listed := listed) (i := i) (by omega)
        have eu' : ∀ j, (listed.setIfInBounds i true).getD j true = updL (fun j => listed.getD j true) i j := fun j => congrFun eu j
        refine ih f (i + 1) _ a' w' (by omega) ?_ (by omega) (by simpa using hsz) (fun j oj hoj hj e he hb => ?_) (fun j hj => ?_) (fun j hj hjs => ?_) h'
        · have := cntN_set (fun j => listed.getD j true) i h1 ops.size
          rw [if_pos his, ← eu] at this
          omega
        · rw [eu'] at hj ⊢
          unfold updL at hj ⊢
          by_cases hon : e.on = i
          · rw [if_pos hon]
          · rw [if_neg hon]
            by_cases hji : j = i
            · subst hji
              have hlt := (hB.dep j oj hoj e he hb).1
              exact hl _ hlt
            · rw [if_neg hji] at hj
              exact hdown j oj hoj hj e he hb
        · rw [eu']; unfold updL
          split
          · rfl
          · exact hl j (by omega)
        · rw [eu']; unfold updL
          rw [if_neg (by omega)]; exact hu j (by omega) hjs
      unfold wpList at h
      simp only
      split
      · rename_i hw
        rw [if_pos hw] at h
        exact h.imp (fun h => Oper.wp_mono nxt h) id
      · rename_i hw
        rw [if_neg hw] at h
        exact nxt _ _ h
    · rw [hDk] at h
      simp only [if_true] at h
      refine ih fuel (k + 1) listed a w (by omega) hf (by omega) hsz hdown (fun j hj => ?_) (fun j hj hjs => hu j (by omega) hjs) h
      by_cases hjk : j = k
      · subst hjk; rw [hu j (Nat.le_refl _) hks, hDk]
      · exact hl j (by omega)

theorem wpAny_facts {P : Program} {ops : Array Oper} {Q : Exit → Act → World → Prop} {a : Act} {w0 : World} {listed0 : Array Bool} {fuel0 : Nat} (R : World → World → Prop) (ss : List Spec) (Dl : List Nat) (tl : List Oper) (hF : factsB ops (ss.map Spec.isDone) Dl listed0 fuel0 = true)
    (htl : tailOps ops (fun i => Dl.contains i) (ops.size - ss.length) ss.length = tl) (hr : ∀ w, R w w) (ht : ∀ w w' w'', R w w' → R w' w'' → R w w'') (hk : specsKept R ops 0 ss) (h : wpFacts P ops R w0 Q ss tl ss ops.toList [] a) : wpAny P .any ops Q fuel0 listed0 a w0 := by
  have hB := FB.of hF
  have hle : ss.length ≤ ops.size := by have := hB.le; rw [List.length_map] at this; exact this
  generalize hDD : (fun i => Dl.contains i) = D at *
  have hD : ∀ i s, ss[i]? = some s → s.isDone = D i := fun i s hs => by
    have hi := (List.getElem?_eq_some_iff.1 hs).1
    have := hB.sdn i (by rw [List.length_map]; exact hi)
    rw [← this, List.getD_eq_getElem?_getD, List.getElem?_map, hs]; rfl
  have hloc : ∀ (i : Nat) (s : Spec), ss[i]? = some s → ∀ vf vf' u w, (∀ j, depOn ops i j → vf j = vf' j) → s.holds vf u w → s.holds vf' u w := fun i s hs vf vf' u w hj h => (specsKept_get hk i s hs).2 vf vf' u w (by rw [Nat.zero_add]; exact hj) h
  have hlt : ∀ i j, depOn ops i j → j < i := fun i j ⟨o, e, ho, he, hb, hon⟩ => by rw [← hon]; exact (hB.dep i o ho e he hb).1
  have hout : ∀ v : Nat → Value, Cons ss v → _ := fun v hv => wpFacts_out (a := a) hD hloc hlt v hv ss 0 [] rfl (by simp) hle rfl (fun i hi => by omega) h
  have main : ∀ (fuel : Nat) (listed : Array Bool) (v : Nat → Value) (w : World), listed.size = ops.size → Cons ss v → R w0 w → (∀ j, D j = true → j < ops.size → listed.getD j true = true) → (∀ (j : Nat) (s : Spec), ss[j]? = some s → listed.getD j true = true → s.holds v (v j) w) →
      (∀ j o, ops[j]? = some o → listed.getD j true = true → ∀ e ∈ o.after, Region.binds .any e = true → listed.getD e.on true = true) → (∀ j, ss.length ≤ j → j < ops.size → listed.getD j true = D j) →
      cntN (fun j => listed.getD j true) ops.size ≤ fuel → wpAny P .any ops Q fuel listed (frN ops (fun j => listed.getD j true && !D j) v a ss.length) w := by
    intro fuel
    induction fuel with
    | zero =>
      intro listed v w hsz hv hR hdn hfacts hdown htail hcnt
      have hall : ∀ j, j < ops.size → listed.getD j true = true := cntN_zero _ _ (Nat.le_zero.1 hcnt)
      refine wpAny_tail hB (ops.size - ss.length) 0 ss.length listed _ w (by omega) hcnt (by rw [List.length_map]; exact Nat.le_refl _) hsz hdown (fun j hj => hall j (by omega)) htail ?_
      have efr : frN ops (fun j => listed.getD j true && !D j) v a ss.length = frN ops (topL D) v a ss.length := by
        have : ∀ k, k ≤ ss.length → frN ops (fun j => listed.getD j true && !D j) v a k = frN ops (topL D) v a k := by
          intro k
          induction k with
          | zero => intro _; rfl
          | succ k ih =>
            intro hk; unfold frN; rw [ih (by omega)]
            rw [hall k (by omega)]; rfl
        exact this _ (Nat.le_refl _)
      rw [efr, htl]
      exact (hout v hv).2 w hR fun i s hs => by
        have hi := (List.getElem?_eq_some_iff.1 hs).1
        exact hfacts i s hs (hall i (by omega))
    | succ fuel ih =>
      intro listed v w hsz hv hR hdn hfacts hdown htail hcnt
      by_cases hall : ∀ j, j < ss.length → listed.getD j true = true
      · refine wpAny_tail hB (ops.size - ss.length) (fuel + 1) ss.length listed _ w (by omega) hcnt (by rw [List.length_map]; exact Nat.le_refl _) hsz hdown hall htail ?_
        have efr : frN ops (fun j => listed.getD j true && !D j) v a ss.length = frN ops (topL D) v a ss.length := by
          have : ∀ k, k ≤ ss.length → frN ops (fun j => listed.getD j true && !D j) v a k = frN ops (topL D) v a k := by
            intro k
            induction k with
            | zero => intro _; rfl
            | succ k ih =>
              intro hk; unfold frN; rw [ih (by omega)]
              rw [hall k (by omega)]; rfl
          exact this _ (Nat.le_refl _)
        rw [efr, htl]
        exact (hout v hv).2 w hR fun i s hs => by
          have hi := (List.getElem?_eq_some_iff.1 hs).1
          exact hfacts i s hs (hall i hi)
      · have hex : ∃ j, j < ss.length ∧ listed.getD j true = false := by
          refine Classical.byContradiction fun hn => hall fun j hj => ?_
          cases hx : listed.getD j true
          · exact absurd ⟨j, hj, hx⟩ hn
          · rfl
        have hrdy : Region.ready .any ops listed ≠ [] := by
          obtain ⟨j, hj, hx⟩ := hex
          have : ∀ n j, j < n → j < ss.length → listed.getD j true = false → Region.ready .any ops listed ≠ [] := by
            intro n
            induction n with
            | zero => intro j hj; omega
            | succ n ihn =>
              intro j hjn hj hx
              by_cases hd : ∃ o e, ops[j]? = some o ∧ e ∈ o.after ∧ Region.binds .any e = true ∧ listed.getD e.on true = false
              · obtain ⟨o, e, ho, he, hb, hxe⟩ := hd
                have := (hB.dep j o ho e he hb).1
                exact ihn e.on (by omega) (by omega) hxe
              · have hjo : j < ops.size := by omega
                have hmem : j ∈ Region.ready .any ops listed := mem_ready.2 ⟨hx, ops[j], by simp [hjo], fun e he hb => by
                  have hlt := (hB.dep j ops[j] (by simp [hjo]) e he hb).1
                  rw [getD_of_lt (by omega)]
                  cases hxe : listed.getD e.on true
                  · exact absurd ⟨ops[j], e, by simp [hjo], he, hb, hxe⟩ hd
                  · rfl⟩
                intro h0; rw [h0] at hmem; cases hmem
          exact this (j + 1) j (by omega) hj hx
        refine ⟨fun h0 => absurd h0 hrdy, fun i hi => ?_⟩
        obtain ⟨h1, o, h2, h3⟩ := mem_ready.1 hi
        have his := (Array.getElem?_eq_some_iff.1 h2).1
        have hDi : D i = false := by
          cases hx : D i
          · rfl
          · rw [hdn i hx his] at h1; cases h1
        have h3' : ∀ e ∈ o.after, Region.binds .any e = true → listed.getD e.on true = true := fun e he hb => by
          have hlt := (hB.dep i o h2 e he hb).1
          have := h3 e he hb
          rw [getD_of_lt (by omega)] at this; exact this
        have hiss : i < ss.length := by
          rcases Nat.lt_or_ge i ss.length with h | h
          · exact h
          · obtain ⟨j, hj, hx⟩ := hex
            have hDj : D j = false := by
              cases hd : D j
              · rfl
              · rw [hdn j hd (by omega)] at hx; cases hx
            have := anc_listed hdown (hB.tail i o h2 (by rw [List.length_map]; exact h) hDi j (by omega) hDj) (fun o' ho' e he hb => by rw [h2] at ho'; cases ho'; exact h3' e he hb)
            rw [hx] at this; cases this
        obtain ⟨s, hs⟩ : ∃ s, ss[i]? = some s := ⟨ss[i], by simp [hiss]⟩
        have hdst : o.dst = dstOf ops i := by unfold dstOf; rw [h2]; rfl
        have hstep := (hout v hv).1 i o s (Nat.zero_le _) h2 hs hDi w hR (fun e he hb s' hs' => hfacts e.on s' hs' (h3' e he hb))
        have hlook : ∀ t ∈ o.looksAt ops, (frN ops (fun j => listed.getD j true && !D j) v a ss.length).tmps[t]? = (frN ops (topL D) v a i).tmps[t]? := fun t ht => by
          refine frN_tmps _ _ v a t ss.length i (by omega) fun j hj => ?_
          by_cases hij : i = j
          · subst hij
            exact ⟨fun h => by omega, fun _ => by rw [h1]; rfl⟩
          · rcases hB.look i j o t hij h2 hj ht with hdj | ⟨hji, e, he, hb, hon⟩ | ⟨hij', oj, hoj, e, he, hb, hon⟩
            · exact ⟨fun _ => by simp [topL, hdj], fun _ => by simp [hdj]⟩
            · have := h3' e he hb
              rw [hon] at this
              exact ⟨fun _ => by rw [this]; rfl, fun h => by omega⟩
            · refine ⟨fun h => by omega, fun _ => ?_⟩
              cases hx : listed.getD j true
              · rfl
              · have := hdown j oj hoj hx e he hb
                rw [hon, h1] at this; cases this
        have hexec := exec_congr (ops := ops) o (fun cs b => Region.noSelect_spec hB.sel i o cs b h2) _ _ hlook
        have hwant := wanted_congr (ops := ops) o _ _ hlook
        have nxt : ∀ u w', R w w' → s.holds v u w' → wpAny P .any ops Q fuel (listed.setIfInBounds i true) ((frN ops (fun j => listed.getD j true && !D j) v a ss.length).put o.dst u) w' := by
          intro u w' hR' hsu
          have eu := getD_updL (listed := listed) (i := i) (by omega)
          have eu' : ∀ j, (listed.setIfInBounds i true).getD j true = updL (fun j => listed.getD j true) i j := fun j => congrFun eu j
          have hfr := frN_set (ops := ops) hB.dst (fun j => listed.getD j true && !D j) v a i u (by simp only [h1]; rfl) ss.length
          have euD : updL (fun j => listed.getD j true && !D j) i = fun j => (listed.setIfInBounds i true).getD j true && !D j := by
            funext j
            rw [eu']
            unfold updL
            by_cases hji : j = i
            · subst hji; simp [hDi]
            · rw [if_neg hji, if_neg hji]
          rw [if_pos hiss, ← hdst, euD] at hfr
          rw [← hfr]
          refine ih _ (updV v i u) w' (by simpa using hsz) ?_ (ht _ _ _ hR hR') ?_ ?_ ?_ ?_ ?_
          · refine ⟨fun j c hc => ?_, fun j hc => ?_⟩
            · unfold updV
              by_cases hji : j = i
              · subst hji
                rw [hs] at hc
                cases hc
                rw [if_pos rfl]; exact hsu
              · rw [if_neg hji]; exact hv.1 j c hc
            · unfold updV
              by_cases hji : j = i
              · subst hji
                have := hD j _ hc
                rw [hDi] at this; cases this
              · rw [if_neg hji]; exact hv.2 j hc
          · intro j hdj hjs
            rw [eu']; unfold updL
            split
            · rfl
            · exact hdn j hdj hjs
          · intro j s' hs' hj
            rw [eu'] at hj
            unfold updL at hj
            by_cases hji : j = i
            · subst hji
              rw [hs] at hs'
              cases hs'
              have e : updV v j u j = u := by unfold updV; rw [if_pos rfl]
              rw [e]
              refine hloc j s hs v _ _ _ (fun q hq => ?_) hsu
              unfold updV
              rw [if_neg (by have := hlt j q hq; omega)]
            · rw [if_neg hji] at hj
              have e : updV v i u j = v j := by unfold updV; rw [if_neg hji]
              rw [e]
              refine hloc j s' hs' v _ _ _ (fun q hq => ?_) ((specsKept_get hk j s' hs').1 _ _ _ _ hR' (hfacts j s' hs' hj))
              unfold updV
              rw [if_neg ?_]
              intro hqi
              subst hqi
              obtain ⟨oj, e, hoj, he, hb, hon⟩ := hq
              have := hdown j oj hoj hj e he hb
              rw [hon, h1] at this; cases this
          · intro j oj hoj hj e he hb
            rw [eu'] at hj ⊢
            unfold updL at hj ⊢
            by_cases hon : e.on = i
            · rw [if_pos hon]
            · rw [if_neg hon]
              by_cases hji : j = i
              · subst hji
                rw [h2] at hoj
                cases hoj
                exact h3' e he hb
              · rw [if_neg hji] at hj
                exact hdown j oj hoj hj e he hb
          · intro j hj hjo
            rw [eu']
            unfold updL
            rw [if_neg (by omega)]
            exact htail j hj hjo
          · have := cntN_set (fun j => listed.getD j true) i h1 ops.size
            rw [if_pos his, ← eu] at this
            omega
        unfold wpOp
        rw [h2]
        simp only
        rw [hwant]
        unfold StepF at hstep
        split
        · rename_i hw
          rw [if_pos hw] at hstep
          refine .inl (Oper.wp_frame hexec (fun u w' ⟨u', he, hR', hsu⟩ => ?_) (fun d w' ⟨u', he, _⟩ => ?_) hstep)
          · have hsame : (frN ops (fun j => listed.getD j true && !D j) v a ss.length).put o.dst u = (frN ops (fun j => listed.getD j true && !D j) v a ss.length).put o.dst u' := put_same he (by rw [frN_size, frN_size])
            rw [hsame]
            exact nxt _ _ hR' hsu
          · have := congrArg (fun x : Act => x.defers.length) he
            cases hd : o.dst <;> simp [hd, Act.put] at this
        · rename_i hw
          rw [if_neg hw] at hstep
          exact nxt _ _ (hr _) hstep
  have hfr0 : ∀ v : Nat → Value, frN ops (fun j => listed0.getD j true && !D j) v a ss.length = a := by
    intro v
    have : ∀ k, k ≤ ss.length → frN ops (fun j => listed0.getD j true && !D j) v a k = a := by
      intro k
      induction k with
      | zero => intro _; rfl
      | succ k ih =>
        intro hk; unfold frN; rw [ih (by omega), hB.l0 k (by omega)]
        cases D k <;> rfl
    exact this _ (Nat.le_refl _)
  have := main fuel0 listed0 (fun i => match ss[i]? with | some (.val c) => c | _ => undef) w0 hB.lsz ⟨fun i c hc => by simp [hc], fun i hc => by simp [hc]⟩ (hr _) (fun j hdj hj => by rw [hB.l0 j hj, hdj])
    (fun j s hs hj => by
      have hi := (List.getElem?_eq_some_iff.1 hs).1
      rw [hB.l0 j (by omega), ← hD j s hs] at hj
      cases s <;> first | trivial | (cases hj))
    (fun j o ho hj e he hb => by
      have hjo := (Array.getElem?_eq_some_iff.1 ho).1
      have hd := hB.dep j o ho e he hb
      rw [hB.l0 j hjo] at hj
      rw [hB.l0 e.on (by omega)]; exact hd.2 hj)
    (fun j hj hjo => hB.l0 j hjo) hB.cnt
  rw [hfr0] at this
  exact this

/-- a region whose first operations make memory, from its beginning -/
theorem wp_region_facts {P : Program} {id : Nat} {Q : Exit → Act → World → Prop} {a : Act} {w : World} {l : List Oper} (R : World → World → Prop) (ss : List Spec) (tl : List Oper) (hm : P.follows .mixedOrders = true) (hF : factsB l.toArray (ss.map Spec.isDone) [] (Array.replicate l.toArray.size false) l.toArray.size = true)
    (htl : tailOps l.toArray (fun i => ([] : List Nat).contains i) (l.toArray.size - ss.length) ss.length = tl) (hr : ∀ w, R w w) (ht : ∀ w w' w'', R w w' → R w' w'' → R w w'') (hk : specsKept R l.toArray 0 ss) (h : wpFacts P l.toArray R w.drew Q ss tl ss l [] a) : (Code.region id l.toArray true).wp P Q a w :=
  wp_region_any hm (wpAny_facts R ss [] tl hF htl hr ht hk h)
end Go.Proofs.Ytdocbgfpnaiijaa

namespace Go.Proofs.Ytdocbgfpnaiijaa
open Go.RowKit

/-- all that there was is as it was -/
def Lat (w w' : World) : Prop := Below w.heap.size w w'
theorem Lat.refl (w : World) : Lat w w := Below.refl _ w
theorem Lat.trans {w w' w'' : World} (h : Lat w w') (h' : Lat w' w'') : Lat w w'' := Below.trans h (Below.mono h' h.size)

theorem Lat.of_drew {w w' : World} (h : Lat w.drew w') : Lat w w' := ⟨h.os, h.tape, h.output, h.size, h.block⟩

theorem StepF.val {P : Program} {ops : Array Oper} {R : World → World → Prop} {c : Value} {vf : Nat → Value} {o : Oper} {a : Act} {w : World} (hw : Region.wanted o (yielded ops a.tmps) = true) (h : ∀ K : Act → World → Prop, (∀ w', R w w' → K (a.put o.dst c) w') → o.wp P a w K (fun _ _ _ => False)) : StepF P ops R (.val c) vf o a w := by
  unfold StepF; rw [if_pos hw]; exact h _ fun w' hR => ⟨c, rfl, hR, rfl⟩
theorem StepF.fact {P : Program} {ops : Array Oper} {R : World → World → Prop} {F : Value → World → Prop} {vf : Nat → Value} {o : Oper} {a : Act} {w : World} (hw : Region.wanted o (yielded ops a.tmps) = true) (h : ∀ K : Act → World → Prop, (∀ u w', R w w' → F u w' → K (a.put o.dst u) w') → o.wp P a w K (fun _ _ _ => False)) : StepF P ops R (.fact F) vf o a w := by
  unfold StepF; rw [if_pos hw]; exact h _ fun u w' hR hF => ⟨u, rfl, hR, hF⟩
theorem StepF.rel {P : Program} {ops : Array Oper} {R : World → World → Prop} {G : (Nat → Value) → Value → World → Prop} {vf : Nat → Value} {o : Oper} {a : Act} {w : World} (hw : Region.wanted o (yielded ops a.tmps) = true) (h : ∀ K : Act → World → Prop, (∀ u w', R w w' → G vf u w' → K (a.put o.dst u) w') → o.wp P a w K (fun _ _ _ => False)) : StepF P ops R (.rel G) vf o a w := by
  unfold StepF; rw [if_pos hw]; exact h _ fun u w' hR hF => ⟨u, rfl, hR, hF⟩

theorem wpFacts_val {P : Program} {ops : Array Oper} {w0 : World} {Q : Exit → Act → World → Prop} {all ss : List Spec} {tl : List Oper} {c : Value} {o : Oper} {rest : List Oper} {vs : List Value} {a : Act} (hw : Region.wanted o (yielded ops a.tmps) = true)
    (h1 : ∀ w, Lat w0 w → depsHold all vs w o.after.toList → ∀ K : Act → World → Prop, (∀ w', Lat w w' → K (a.put o.dst c) w') → o.wp P a w K (fun _ _ _ => False)) (h2 : wpFacts P ops Lat w0 Q all tl ss rest (vs ++ [c]) (a.put o.dst c)) : wpFacts P ops Lat w0 Q all tl (.val c :: ss) (o :: rest) vs a :=
  ⟨fun w hR hd => StepF.val hw (h1 w hR hd), h2⟩
theorem wpFacts_fact {P : Program} {ops : Array Oper} {w0 : World} {Q : Exit → Act → World → Prop} {all ss : List Spec} {tl : List Oper} {F : Value → World → Prop} {o : Oper} {rest : List Oper} {vs : List Value} {a : Act} (hw : Region.wanted o (yielded ops a.tmps) = true)
    (h1 : ∀ w, Lat w0 w → depsHold all vs w o.after.toList → ∀ K : Act → World → Prop, (∀ u w', Lat w w' → F u w' → K (a.put o.dst u) w') → o.wp P a w K (fun _ _ _ => False)) (h2 : ∀ u, wpFacts P ops Lat w0 Q all tl ss rest (vs ++ [u]) (a.put o.dst u)) : wpFacts P ops Lat w0 Q all tl (.fact F :: ss) (o :: rest) vs a :=
  ⟨fun w hR hd => StepF.fact hw (h1 w hR hd), h2⟩
theorem wpFacts_rel {P : Program} {ops : Array Oper} {w0 : World} {Q : Exit → Act → World → Prop} {all ss : List Spec} {tl : List Oper} {G : (Nat → Value) → Value → World → Prop} {o : Oper} {rest : List Oper} {vs : List Value} {a : Act} (hw : Region.wanted o (yielded ops a.tmps) = true)
    (h1 : ∀ w, Lat w0 w → depsHold all vs w o.after.toList → ∀ K : Act → World → Prop, (∀ u w', Lat w w' → G (atD vs) u w' → K (a.put o.dst u) w') → o.wp P a w K (fun _ _ _ => False)) (h2 : ∀ u, wpFacts P ops Lat w0 Q all tl ss rest (vs ++ [u]) (a.put o.dst u)) : wpFacts P ops Lat w0 Q all tl (.rel G :: ss) (o :: rest) vs a :=
  ⟨fun w hR hd => StepF.rel hw (h1 w hR hd), h2⟩

theorem allHold_get {w : World} {vf : Nat → Value} : ∀ {ss : List Spec} {vs : List Value} (i : Nat) {s : Spec} {v : Value}, allHold w vf ss vs → ss[i]? = some s → vs[i]? = some v → s.holds vf v w
  | [], _, i, s, v, _, h, _ => by simp at h
  | _ :: _, [], i, s, v, _, _, h => by simp at h
  | s' :: ss, v' :: vs, 0, s, v, h, h1, h2 => by
    cases Option.some.inj h1
    cases Option.some.inj h2
    exact h.1
  | s' :: ss, v' :: vs, i + 1, s, v, h, h1, h2 => allHold_get i h.2 (by simpa using h1) (by simpa using h2)

theorem wpFacts_norm {P : Program} {ops : Array Oper} {w0 : World} {Q : Exit → Act → World → Prop} {all ss : List Spec} {tl : List Oper} {rest : List Oper} {vs vs' : List Value} {a a' : Act} (ha : a = a') (hv : vs = vs') (h : wpFacts P ops Lat w0 Q all tl ss rest vs' a') : wpFacts P ops Lat w0 Q all tl ss rest vs a := by rw [ha, hv]; exact h

theorem wp_region_lat {P : Program} {id : Nat} {Q : Exit → Act → World → Prop} {a : Act} {w : World} {l : List Oper} (ss : List Spec) (tl : List Oper) (hm : P.follows .mixedOrders = true) (hF : factsB l.toArray (ss.map Spec.isDone) [] (Array.replicate l.toArray.size false) l.toArray.size = true)
    (htl : tailOps l.toArray (fun i => ([] : List Nat).contains i) (l.toArray.size - ss.length) ss.length = tl) (hk : specsKept Lat l.toArray 0 ss) (h : wpFacts P l.toArray Lat w.drew Q ss tl ss l [] a) : (Code.region id l.toArray true).wp P Q a w :=
  wp_region_facts Lat ss tl hm hF htl Lat.refl (fun _ _ _ => Lat.trans) hk h
theorem wpAny_lat {P : Program} {Q : Exit → Act → World → Prop} {a : Act} {w0 : World} {l : List Oper} {listed0 : Array Bool} {fuel0 : Nat} (ss : List Spec) (Dl : List Nat) (tl : List Oper) (hF : factsB l.toArray (ss.map Spec.isDone) Dl listed0 fuel0 = true)
    (htl : tailOps l.toArray (fun i => Dl.contains i) (l.toArray.size - ss.length) ss.length = tl) (hk : specsKept Lat l.toArray 0 ss) (h : wpFacts P l.toArray Lat w0 Q ss tl ss l [] a) : wpAny P .any l.toArray Q fuel0 listed0 a w0 :=
  wpAny_facts Lat ss Dl tl hF htl Lat.refl (fun _ _ _ => Lat.trans) hk h

/-- an empty row that the statement itself makes -/
def Empty (N : Nat) (e : TypeId) (v : Value) (w : World) : Prop := ∃ b, v = .slice (some ⟨b, 0, none⟩) 0 0 ∧ N ≤ b ∧ w.heap[b]? = some (.cells #[] e (0, 0))
theorem Empty.kept {N : Nat} {e : TypeId} : ∀ v w w', Lat w w' → Empty N e v w → Empty N e v w' := by
  rintro v w w' hL ⟨b, hv, hN, hb⟩
  exact ⟨b, hv, hN, by rw [hL.block _ (Array.getElem?_eq_some_iff.1 hb).1]; exact hb⟩
theorem Empty.new (N : Nat) (e : TypeId) (w : World) (h : N ≤ w.heap.size) : Empty N e (.slice (some ⟨w.heap.size, 0, none⟩) 0 0) (w.alloc (.cells #[] e)) := ⟨_, rfl, h, heap_alloc_new w _⟩

theorem ownsRow_kept {N : Nat} {e : TypeId} {z n : Nat} {xs : List Value} : ∀ v w w', Lat w w' → World.ownsRow w N e z v n xs → World.ownsRow w' N e z v n xs := fun _ _ _ hL h => ownsRow_below h hL

/-- append of a row onto an empty one: a row of one's own -/
theorem wp_copy {P : Program} {o : Oper} {a : Act} {w : World} {K : Act → World → Prop} {Q : Exit → Act → World → Prop} (s x : Operand) (t : TypeId) (ho : o.op = .call { callee := .builtin .append, args := #[s, x], argTypes := #[t, t] })
    (e : TypeId) (i : TypeInfo) (z : Value) (size bytes : Nat) (ht : P.underlying t = some (.slice e)) (hi : P.info? e = some i) (hz : i.zero = some z) (hsize : i.size = size) (hby : i.bytes = bytes) (hzs : z.cells.size = size)
    (N : Nat) (v : Value) (hs : a.eval s = v) (hE : Empty N e v w) (y : Value) (m : Nat) (vs : List Value) (hx : a.eval x = y) (hsrc : Src P size t y m vs w) (h63 : m ≤ maxLen) (hbytes : m * bytes ≤ 140737488355328)
    (h : ∀ v' w', Lat w w' → w'.ownsRow N e size v' m vs → (0 < m → v'.ownBlock = some w.heap.size) → K (a.put o.dst v') w') : o.wp P a w K Q := by
  subst hsize
  subst hby
  obtain ⟨b, rfl, hN, hb⟩ := hE
  have hlen := hsrc.newsLen
  have hbw := (Array.getElem?_eq_some_iff.1 hb).1
  unfold Oper.wp execOp
  by_cases hm : m = 0
  · subst hm
    have hvs : vs = [] := List.eq_nil_of_length_eq_zero (by simpa using hlen)
    subst hvs
    have hr := run_append_nothing (P := P) w t t o.type e i ht hi (some ⟨b, 0, none⟩) 0 0 (Nat.le_refl _) y hsrc
    simp only [ho, resolve, invoke, builtin, Sem.run_bind, Sem.run_pure, Result.andThen_ok, List.map_toArray, List.map_cons, List.map_nil, hs, hx, hr]
    exact h _ _ (Lat.refl _) ⟨by simp, .inr ⟨b, 0, #[], rfl, hN, hb, Nat.le_refl _, Nat.zero_le _, by simp, by simp⟩⟩ (fun h0 => by omega)
  · have hold : (Builtin.firstCells i.size 0 (.slice (some ⟨b, 0, none⟩) 0 0)).run P w.drew = .ok ([] : List Value).toArray w.drew := run_firstCells_some w.drew i.size 0 ⟨b, 0, none⟩ 0 0 [] (by simp) (by simp)
    have h63' : ((0 + m : Nat) : Int) ≤ 9223372036854775807 := by unfold maxLen at h63; omega
    have hr := run_append_grow_src (P := P) w t t o.type e i z ht hi hz (some ⟨b, 0, none⟩) 0 0 [] hold y m vs hsrc (by omega) h63' (growslice_fits (by omega) (by rw [Nat.zero_add]; exact hbytes))
    simp only [ho, resolve, invoke, builtin, Sem.run_bind, Sem.run_pure, Result.andThen_ok, List.map_toArray, List.map_cons, List.map_nil, hs, hx, hr]
    refine h _ _ (((Below.refl _ w).drew).alloc (Nat.le_refl _) _) ?_ (fun _ => rfl)
    refine ⟨hlen, .inr ⟨w.heap.size, grownCap w (0 + m) 0 e, _, by rw [Nat.zero_add], by omega, heap_alloc_new w.drew _, ?_, grownCap_le_maxLen w _ _ e (by omega), ?_, ?_⟩⟩
    · have := grownCap_ge w (0 + m) 0 e; omega
    · have := grownCap_ge w (0 + m) 0 e
      simp only [Array.size_append, List.size_toArray, size_zeroCells, hzs, List.nil_append, hlen, ← Nat.add_mul]
      congr 1
      omega
    · simp only [Array.toList_append, List.nil_append]
      rw [← hlen]
      exact List.take_left
end Go.Proofs.Ytdocbgfpnaiijaa
