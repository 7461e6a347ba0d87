/-
  The mathematics of one line of a grammar's text: where it stands, and what grammar it is by itself.
-/
import Derived.Test.YtnphfhoknnnciaaShMath2
namespace Go.Proofs.Ytnphfhoknnnciaa.Sh
open Go.Proofs.Ytnphfhoknnnciaa.Gr
open Go.Proofs.Ytnphfhoknnnciaa.Rd (Tk Al)

/-- is all that a rule names its own? -/
def own (g : Gm) (r : Rl) : Bool := r.2.all (fun x => decide (x < (g.terms.length : Int)) || decide (x = r.1))
/-- a line, without its end -/
def lineT (g : Gm) (r : Rl) : ByteArray := ruleT g r ++ ⟨#[32, 59]⟩


theorem lexes_syms1 {g : Gm} (h : good g = true) (ss : List Int) (hs : ∀ s ∈ ss, isT g s = true ∨ isN g s = true) : Lexes (ss.flatMap (fun s => 32 :: (symT g s).data.toList) ++ [32, 59]) (ss.map (kb g) ++ [(5, [59])]) := by
  induction ss with
  | nil => exact lexes_blank (.inl rfl) (lexes_end lexes_nil)
  | cons s r ih =>
    have ih' := ih (fun x hx => hs x (List.mem_cons_of_mem _ hx))
    rw [List.flatMap_cons, List.map_cons, List.cons_append, List.cons_append, List.append_assoc]
    obtain ⟨z, hz⟩ : ∃ z, r.flatMap (fun s => 32 :: (symT g s).data.toList) ++ [32, 59] = 32 :: z := by
      cases r with
      | nil => exact ⟨_, rfl⟩
      | cons s' r' => exact ⟨_, rfl⟩
    rw [hz] at ih' ⊢
    exact lexes_blank (.inl rfl) (lexes_sym h s (hs s (by simp)) ih')

theorem lexes_line1 {g : Gm} (h : good g = true) (r : Rl) (hr : r ∈ g.rules) : Lexes (lineT g r).data.toList (defB g r) := by
  have hf := rule_fits h r hr
  have e0 : (lineT g r).data.toList = (ruleT g r).data.toList ++ [32, 59] := by unfold lineT; simp
  rw [e0]
  unfold ruleT
  rw [symsB]
  have e : (symT g r.1 ++ ⟨#[32, 61]⟩ : ByteArray).data.toList = (symT g r.1).data.toList ++ [32, 61] := by simp
  rw [e, List.append_assoc, List.append_assoc]
  exact lexes_sym h r.1 (.inr hf.1) (lexes_blank (.inl rfl) (lexes_is (lexes_syms1 h r.2 hf.2.2)))

theorem name_ne {g : Gm} (h : good g = true) {s t : Int} (hs : isN g s = true) (ht : isN g t = true) (e : (name g s).1 = (name g t).1) : s = t := by
  have hp := good_parts h
  rw [name_N hs, name_N ht] at e
  unfold isN at hs ht
  have h1 := of_decide_eq_true hs
  have h2 := of_decide_eq_true ht
  rw [getD_at _ _ _ (by omega), getD_at _ _ _ (by omega)] at e
  have := (List.getElem_inj (nodup_of_each hp.2.1)).1 e
  omega

theorem of_line {g : Gm} (h : good g = true) (r : Rl) (hr : r ∈ g.rules) (xs : List Al) (hx : xs.map alKey = [r].map (rlKey g)) :
    (own g r = true ∧ ∃ gg x, of xs = .ok gg ∧ gg.rules = [x] ∧ x.2.length = r.2.length) ∨ (own g r = false ∧ ∃ p, of xs = .error (13, p)) := by
  have hf := rule_fits h r hr
  obtain ⟨a, xs1, rfl, ha, hx1⟩ := List.map_eq_cons_iff.1 hx
  have : xs1 = [] := List.map_eq_nil_iff.1 hx1
  subst this
  have e1 : a.1.text = (name g r.1).1 := congrArg (fun p : (Int × ByteArray) × List (Int × ByteArray) => p.1.2) ha
  have e2 : a.2.map tkey = r.2.map (kt g) := congrArg Prod.snd ha
  have hlen : a.2.length = r.2.length := by have := congrArg List.length e2; simpa using this
  have hn : names [a] = [(name g r.1).1] := by unfold names; simp [put, e1]
  have key : ∀ (ts : List Tk) (ss : List Int), ts.map tkey = ss.map (kt g) → (∀ s ∈ ss, isT g s = true ∨ isN g s = true) →
      (ss.all (fun x => decide (x < (g.terms.length : Int)) || decide (x = r.1)) = true ∧ undefT [(name g r.1).1] ts = none) ∨ (ss.all (fun x => decide (x < (g.terms.length : Int)) || decide (x = r.1)) = false ∧ ∃ p, undefT [(name g r.1).1] ts = some p) := by
    intro ts
    induction ts with
    | nil =>
      intro ss hm _
      have : ss = [] := List.map_eq_nil_iff.1 hm.symm
      subst this
      exact .inl ⟨rfl, rfl⟩
    | cons t ts ih =>
      intro ss hm hs
      obtain ⟨s, ss, rfl, hk, hm⟩ := List.map_eq_cons_iff.1 hm.symm
      have hfit := hs s (by simp)
      have k1 : (kt g s).1 = t.kind := congrArg Prod.fst hk
      have k2 : (kt g s).2 = t.text := congrArg Prod.snd hk
      have hrec := ih ss hm.symm (fun x hx => hs x (List.mem_cons_of_mem _ hx))
      rw [List.all_cons, undefT]
      by_cases ht : isT g s = true
      · have hlt : s < (g.terms.length : Int) := by unfold isT at ht; exact (of_decide_eq_true ht).2
        have kk : t.kind = 2 := by rw [← k1]; unfold kt; rw [ht]; rfl
        rw [decide_eq_true hlt, if_neg (by rw [kk]; simp)]
        exact hrec
      · have hN : isN g s = true := hfit.resolve_left ht
        have hge : ¬ s < (g.terms.length : Int) := by unfold isN at hN; have := of_decide_eq_true hN; omega
        have kk : t.kind = 1 := by rw [← k1]; unfold kt; rw [if_neg ht]
        by_cases hsl : s = r.1
        · have : has t.text [(name g r.1).1] = true := has_mem (by rw [← k2, hsl]; exact List.mem_singleton.2 rfl)
          rw [decide_eq_true hsl, if_neg (by rw [this]; simp), Bool.or_true]
          exact hrec
        · have : has t.text [(name g r.1).1] = false := has_not (by
            rw [← k2]
            intro hin
            exact hsl (name_ne h hN hf.1 (List.mem_singleton.1 hin)))
          rw [decide_eq_false hge, decide_eq_false hsl, if_pos ⟨kk, this⟩]
          exact .inr ⟨rfl, _, rfl⟩
  have hund : Gr.undef [(name g r.1).1] [a] = undefT [(name g r.1).1] a.2 := by rw [Gr.undef, Gr.undef]; cases undefT [(name g r.1).1] a.2 <;> rfl
  rcases key a.2 r.2 e2 hf.2.2 with ⟨ho, hu⟩ | ⟨ho, p, hu⟩
  · refine .inl ⟨ho, ?_⟩
    have ht8 := terms_len [a] (fun x hx => by rw [List.mem_singleton.1 hx, hlen]; exact hf.2.1) 1
    rw [show [a].take 1 = [a] from rfl] at ht8
    unfold of
    rw [hn, hund, hu]
    simp only
    rw [if_neg (by simp; omega)]
    refine ⟨_, rule (terms [a]) [(name g r.1).1] a, rfl, rfl, ?_⟩
    show (a.2.map _).length = _
    rw [List.length_map, hlen]
  · refine .inr ⟨ho, p, ?_⟩
    unfold of
    rw [hn, hund, hu]

theorem line_of {g : Gm} (h : good g = true) (r : Rl) (hr : r ∈ g.rules) (hlen : (lineT g r).size ≤ 2000) :
    (own g r = true ∧ ∃ gg x, ofS (lineT g r).data.toList = (0, 0, gg) ∧ gg.rules = [x] ∧ x.2.length = r.2.length) ∨ (own g r = false ∧ ∃ p, ofS (lineT g r).data.toList = (13, p, ⟨[], [], []⟩)) := by
  have hl : (lineT g r).data.toList.length ≤ 2000 := by simpa using hlen
  have hf := rule_fits h r hr
  obtain ⟨us, h3, h4⟩ := lexes_line1 h r hr ((lineT g r).data.toList.length + 1) 0 (Nat.lt_succ_self _)
  rw [← Lx.tokens_scan] at h3
  have hk : (us.map tkOf).map tkey = [r].flatMap (defK g) := by
    have e1 : (us.map tkOf).map tkey = (us.map (fun t => (t.kind, t.text))).map (fun k : Nat × List UInt8 => ((k.1 : Int), (⟨k.2.toArray⟩ : ByteArray))) := by
      rw [List.map_map, List.map_map]; rfl
    rw [e1, h4]
    have e2 : ∀ s, (((kb g s).1 : Int), (⟨(kb g s).2.toArray⟩ : ByteArray)) = kt g s := fun s => by
      unfold kb kt
      cases isT g s <;> simp
    rw [List.flatMap_cons, List.flatMap_nil, List.append_nil]
    unfold defB defK
    simp only [List.map_cons, List.map_append, List.map_map, List.map_nil]
    rw [e2]
    congr 3
    exact List.map_congr_left fun s _ => e2 s
  obtain ⟨xs, h5, h6⟩ := run_keys g [r] (us.map tkOf) [] (fun x hx => by
    rw [List.mem_singleton.1 hx]
    refine ⟨hf.2.1, ?_⟩
    have := hf.1
    unfold isN at this
    have := of_decide_eq_true this
    unfold isT
    exact decide_eq_false (by omega)) (by simp) hk
  have hne : xs ≠ [] := by
    intro e
    subst e
    simp at h6
  rw [List.nil_append] at h5
  have halts : Rd.altsG (us.map tkOf) (lineT g r).data.toList.length = (0, 0, xs) := by
    refine Rd.altsG_ok ?_
    unfold Rd.alts Rd.whole
    rw [h5]
    simp only [Rd.fin]
    rw [if_neg (by cases xs with | nil => exact absurd rfl hne | cons a b => simp)]
  have hT : toksOf (lineT g r).data.toList = (0, 0, us.map tkOf) := by
    have e : tokensG (lineT g r).data.toList = (0, 0, us) := by unfold tokensG; rw [if_neg (by omega), h3]
    unfold toksOf
    rw [e]
  have hof : ofS (lineT g r).data.toList = outG (of xs) := by
    unfold ofS Gr.ofG
    rw [hT]
    simp only
    rw [if_neg (by simp), halts]
    simp only
    rw [if_neg (by simp)]
    cases of xs <;> rfl
  rcases of_line h r hr xs h6 with ⟨ho, gg, x, e, e1, e2⟩ | ⟨ho, p, e⟩
  · exact .inl ⟨ho, gg, x, by rw [hof, e]; rfl, e1, e2⟩
  · exact .inr ⟨ho, p, by rw [hof, e]; rfl⟩

theorem sym_no10 {g : Gm} (h : good g = true) (s : Int) (hs : isT g s = true ∨ isN g s = true) : ∀ c ∈ (symT g s).data.toList, c ≠ 10 := by
  have hp := good_parts h
  unfold symT
  cases ht : isT g s
  · have hn : isN g s = true := by rcases hs with h | h; rw [ht] at h; cases h; exact h
    have hnm : Lx.isName (name g s).1.data.toList = true := by
      rw [name_N hn]
      unfold isN at hn
      have := of_decide_eq_true hn
      rw [getD_at _ _ _ (by omega)]
      exact (each_get hp.2.1 _ (by omega)).1
    simp only [Lx.isName, Bool.and_eq_true] at hnm
    intro c hc e
    subst e
    have := List.all_eq_true.1 hnm.2 10 hc
    revert this
    decide
  · have hnm : Lx.isTerm (name g s).1.data.toList = true := by
      rw [name_T ht]
      unfold isT at ht
      have := of_decide_eq_true ht
      rw [getD_at _ _ _ (by omega)]
      exact (each_get hp.2.2.1 _ (by omega)).1
    simp only [Lx.isTerm, Bool.and_eq_true] at hnm
    have e : (⟨#[39]⟩ ++ (name g s).1 ++ ⟨#[39]⟩ : ByteArray).data.toList = 39 :: ((name g s).1.data.toList ++ [39]) := by simp
    simp only [if_true]
    rw [e]
    intro c hc e
    subst e
    rcases List.mem_cons.1 hc with hc | hc
    · exact absurd hc (by decide)
    · rcases List.mem_append.1 hc with hc | hc
      · have := List.all_eq_true.1 hnm.2 10 hc
        revert this
        decide
      · exact absurd (List.mem_singleton.1 hc) (by decide)

theorem line_no10 {g : Gm} (h : good g = true) (r : Rl) (hr : r ∈ g.rules) : ∀ c ∈ (lineT g r).data.toList, c ≠ 10 := by
  have hf := rule_fits h r hr
  have e0 : (lineT g r).data.toList = (ruleT g r).data.toList ++ [32, 59] := by unfold lineT; simp
  rw [e0]
  unfold ruleT
  rw [symsB]
  have e : (symT g r.1 ++ ⟨#[32, 61]⟩ : ByteArray).data.toList = (symT g r.1).data.toList ++ [32, 61] := by simp
  rw [e]
  intro c hc
  rcases List.mem_append.1 hc with hc | hc
  · rcases List.mem_append.1 hc with hc | hc
    · rcases List.mem_append.1 hc with hc | hc
      · exact sym_no10 h r.1 (.inr hf.1) c hc
      · intro e; subst e; exact absurd hc (by decide)
    · obtain ⟨s, hs, hc⟩ := List.mem_flatMap.1 hc
      rcases List.mem_cons.1 hc with hc | hc
      · intro e; subst e; exact absurd hc (by decide)
      · exact sym_no10 h s (hf.2.2 s hs) c hc
  · intro e; subst e; exact absurd hc (by decide)

/-- a line in its text -/
theorem text_line {g : Gm} (q : Nat) (hq : q < g.rules.length) : ∃ P Q : List UInt8, P.length = (allT g (g.rules.take q)).size ∧ (allT g g.rules).data.toList = P ++ ((lineT g g.rules[q]).data.toList ++ 10 :: Q) := by
  refine ⟨(allT g (g.rules.take q)).data.toList, (g.rules.drop (q + 1)).flatMap (fun r => (ruleT g r).data.toList ++ [32, 59, 10]), by simp, ?_⟩
  rw [allB, allB]
  conv => lhs; rw [← List.take_append_drop q g.rules, List.drop_eq_getElem_cons hq, List.flatMap_append, List.flatMap_cons]
  unfold lineT
  simp

theorem text_next {g : Gm} (q : Nat) (hq : q < g.rules.length) : (allT g (g.rules.take (q + 1))).size = (allT g (g.rules.take q)).size + (lineT g g.rules[q]).size + 1 := by
  rw [allT_step g g.rules q hq]
  unfold lineT
  rw [size_app, size_app, size_app, show endT.size = 3 from rfl, show (⟨#[32, 59]⟩ : ByteArray).size = 2 from rfl]
  omega

theorem get_list (s : ByteArray) (i : Nat) (hi : i < s.size) : s.data.toList[i]? = some s[i] := by
  rw [List.getElem?_eq_getElem (by simpa using hi)]; rfl

/-- a line's bytes in its text: none is a newline; behind it there is one; what stands there is the line -/
theorem text_bytes {g : Gm} (h : good g = true) (q : Nat) (hq : q < g.rules.length) :
    (allT g (g.rules.take q)).size + (lineT g g.rules[q]).size + 1 ≤ (allT g g.rules).size ∧
    (∀ i (hi : i < (allT g g.rules).size), (allT g (g.rules.take q)).size ≤ i → i < (allT g (g.rules.take q)).size + (lineT g g.rules[q]).size → (allT g g.rules)[i] ≠ 10) ∧
    (∀ hi : (allT g (g.rules.take q)).size + (lineT g g.rules[q]).size < (allT g g.rules).size, (allT g g.rules)[(allT g (g.rules.take q)).size + (lineT g g.rules[q]).size] = 10) ∧
    (allT g g.rules).extract (allT g (g.rules.take q)).size ((allT g (g.rules.take q)).size + (lineT g g.rules[q]).size) = lineT g g.rules[q] := by
  obtain ⟨P, Q, hP, hT⟩ := text_line (g := g) q hq
  have hno := line_no10 h g.rules[q] (List.getElem_mem hq)
  have hll : (lineT g g.rules[q]).data.toList.length = (lineT g g.rules[q]).size := by simp
  have hlt : (allT g g.rules).data.toList.length = (allT g g.rules).size := by simp
  generalize lineT g g.rules[q] = ln at *
  generalize allT g g.rules = tx at *
  generalize (allT g (g.rules.take q)).size = bq at *
  have hsz := congrArg List.length hT
  rw [hlt, List.length_append, List.length_append, List.length_cons, hP, hll] at hsz
  refine ⟨by omega, fun i hi h1 h2 => ?_, fun hi => ?_, ?_⟩
  · have := get_list tx i hi
    rw [hT, List.getElem?_append_right (by omega), List.getElem?_append_left (by omega)] at this
    exact hno _ (List.mem_of_getElem? this)
  · have := get_list tx (bq + ln.size) hi
    rw [hT, List.getElem?_append_right (by omega), List.getElem?_append_right (by omega), show bq + ln.size - P.length - ln.data.toList.length = 0 from by omega] at this
    exact (Option.some.inj this).symm
  · have e : (tx.extract bq (bq + ln.size)).data.toList = ln.data.toList := by
      rw [Lx.extract_list, hT, show bq = P.length from hP.symm, List.drop_left, show P.length + ln.size - P.length = ln.data.toList.length from by omega, List.take_left]
    have : (tx.extract bq (bq + ln.size)).data = ln.data := Array.toList_inj.1 e
    exact ByteArray.ext this

theorem line_end {g : Gm} (r : Rl) : 2 ≤ (lineT g r).size ∧ (lineT g r).extract ((lineT g r).size - 2) (lineT g r).size = ⟨#[32, 59]⟩ := by
  have hs : (lineT g r).size = (ruleT g r).size + 2 := by unfold lineT; rw [size_app]; rfl
  refine ⟨by omega, ?_⟩
  have e : ((lineT g r).extract ((lineT g r).size - 2) (lineT g r).size).data.toList = [32, 59] := by
    rw [Lx.extract_list, hs]
    have e0 : (lineT g r).data.toList = (ruleT g r).data.toList ++ [32, 59] := by unfold lineT; simp
    rw [e0, show (ruleT g r).size + 2 - 2 = (ruleT g r).data.toList.length from by simp, List.drop_left, show (ruleT g r).size + 2 - (ruleT g r).data.toList.length = 2 from by simp]
    rfl
  exact ByteArray.ext (Array.toList_inj.1 e)

theorem line_three {g : Gm} (r : Rl) : 3 ≤ (lineT g r).size := by
  have hs : (lineT g r).size = (ruleT g r).size + 2 := by unfold lineT; rw [size_app]; rfl
  have h1 : 2 ≤ (ruleT g r).size := by
    unfold ruleT
    have : (symsT g (symT g r.1 ++ ⟨#[32, 61]⟩) r.2).data.toList.length = (symsT g (symT g r.1 ++ ⟨#[32, 61]⟩) r.2).size := by simp
    rw [symsB] at this
    have e : (symT g r.1 ++ ⟨#[32, 61]⟩ : ByteArray).data.toList = (symT g r.1).data.toList ++ [32, 61] := by simp
    rw [e, List.length_append, List.length_append] at this
    simp at this
    omega
  omega
end Go.Proofs.Ytnphfhoknnnciaa.Sh
