/-
  The mathematics of a grammar written and read again: the grammar of alternatives whose tokens are those of a grammar's rules is that grammar.
-/
import Derived.Test.YtnphfhoknnnciaaGrMathB
namespace Go.Proofs.Ytnphfhoknnnciaa.Sh
open Go.Proofs.Ytnphfhoknnnciaa.Gr
open Go.Proofs.Ytnphfhoknnnciaa.Rd (Tk Al)

/-- a token without its place -/
def tkey (t : Tk) : Int × ByteArray := (t.kind, t.text)
/-- a symbol as a token -/
def kt (g : Gm) (s : Int) : Int × ByteArray := (if isT g s then 2 else 1, (name g s).1)
def alKey (a : Al) : (Int × ByteArray) × List (Int × ByteArray) := (tkey a.1, a.2.map tkey)
def rlKey (g : Gm) (r : Rl) : (Int × ByteArray) × List (Int × ByteArray) := (kt g r.1, r.2.map (kt g))

theorem foldl_same {α β : Type} (f f' : β → α → β) : ∀ (l : List α) (b : β), (∀ b, ∀ x ∈ l, f b x = f' b x) → l.foldl f b = l.foldl f' b
  | [], _, _ => rfl
  | x :: r, b, h => by rw [List.foldl_cons, List.foldl_cons, h b x (by simp)]; exact foldl_same f f' r _ (fun b y hy => h b y (List.mem_cons_of_mem _ hy))

theorem put_comes (D : List ByteArray) (hD : D.Nodup) (off : Int) : ∀ (L : List Int) (n m : Int), off ≤ n → comes L n = some m → m ≤ off + D.length → (∀ x ∈ L, off ≤ x) →
    L.foldl (fun l x => put l (D.getD (x - off).toNat ⟨#[]⟩)) (D.take (n - off).toNat) = D.take (m - off).toNat
  | [], n, m, _, h, _, _ => by rw [comes] at h; cases h; rfl
  | x :: r, n, m, hn, h, hm, hx => by
    have hx0 := hx x (by simp)
    have hr := fun y hy => hx y (List.mem_cons_of_mem _ hy)
    rw [List.foldl_cons]
    by_cases h1 : n < x
    · rw [comes_large h1] at h; cases h
    by_cases h2 : x = n
    · rw [comes_next h2] at h
      have hlm := (comes_all _ _ _ h).1
      have hk : (n - off).toNat < D.length := by omega
      have e : put (D.take (n - off).toNat) (D.getD (x - off).toNat ⟨#[]⟩) = D.take ((n + 1 - off).toNat) := by
        rw [h2, getD_at _ _ _ hk, put_new, show (n + 1 - off).toNat = (n - off).toNat + 1 from by omega, List.take_add_one, List.getElem?_eq_getElem hk]
        · rfl
        · intro hin
          obtain ⟨j, hj, e⟩ := List.getElem_of_mem hin
          rw [List.length_take] at hj
          rw [List.getElem_take] at e
          have := (List.getElem_inj hD).1 e
          omega
      rw [e]
      exact put_comes D hD off r (n + 1) m (by omega) h hm hr
    · rw [comes_came h1 h2] at h
      have hlm := (comes_all _ _ _ h).1
      have hk : (x - off).toNat < (n - off).toNat := by omega
      have e : put (D.take (n - off).toNat) (D.getD (x - off).toNat ⟨#[]⟩) = D.take (n - off).toNat := by
        refine put_in ?_
        rw [getD_at _ _ _ (by omega)]
        exact List.mem_take_iff_getElem.2 ⟨(x - off).toNat, by omega, rfl⟩
      rw [e]
      exact put_comes D hD off r n m hn h hm hr

theorem nodup_of_each {p : ByteArray → Bool} {l : List ByteArray} (h : each p l = true) : l.Nodup := by
  rw [List.nodup_iff_pairwise_ne, List.pairwise_iff_getElem]
  intro i j hi hj hij e
  have := each_inj h i j hi hj e
  omega
theorem nodup_of_eachR {p : Rl → Bool} {l : List Rl} (h : each p l = true) : l.Nodup := by
  rw [List.nodup_iff_pairwise_ne, List.pairwise_iff_getElem]
  intro i j hi hj hij e
  have := each_inj h i j hi hj e
  omega

theorem pos_at {l : List ByteArray} (hD : l.Nodup) (k : Nat) (hk : k < l.length) : pos l[k] l = k := by
  obtain ⟨j, hj, e1, e2⟩ := pos_mem (List.getElem_mem hk)
  have := (List.getElem_inj hD).1 e2
  omega

theorem fold_put_all : ∀ (L A : List Rl), (A ++ L).Nodup → L.foldl put A = A ++ L
  | [], A, _ => by simp
  | x :: r, A, h => by
    rw [List.foldl_cons, put_new, fold_put_all r (A ++ [x]) (by simpa using h)]
    · simp
    · intro hin
      rw [List.nodup_append] at h
      exact h.2.2 x hin x (by simp) rfl

/-- one key's quote more -/
def quoteK (l : List ByteArray) (k : Int × ByteArray) : List ByteArray := if k.1 = 2 then put l k.2 else l
def symK (ts ns : List ByteArray) (k : Int × ByteArray) : Int := if k.1 = 2 then pos k.2 ts else ts.length + pos k.2 ns


theorem name_T {g : Gm} {s : Int} (hs : isT g s = true) : (name g s).1 = g.terms.getD (s - 0).toNat ⟨#[]⟩ := by
  unfold name; rw [if_pos hs, Int.sub_zero]
theorem name_N {g : Gm} {s : Int} (hs : isN g s = true) : (name g s).1 = g.names.getD (s - g.terms.length).toNat ⟨#[]⟩ := by
  have : isT g s = false := by unfold isN at hs; unfold isT; exact decide_eq_false (by have := of_decide_eq_true hs; omega)
  unfold name; rw [if_neg (by rw [this]; simp), if_pos hs]

theorem rule_fits {g : Gm} (h : good g = true) (r : Rl) (hr : r ∈ g.rules) : isN g r.1 = true ∧ r.2.length ≤ 8 ∧ ∀ s ∈ r.2, isT g s = true ∨ isN g s = true := by
  obtain ⟨k, hk, rfl⟩ := List.getElem_of_mem hr
  have := (each_get (good_parts h).2.2.2.1 k hk).1
  simp only [fits, Bool.and_eq_true, decide_eq_true_eq, List.all_eq_true, Bool.or_eq_true] at this
  exact ⟨this.1.1, this.1.2, this.2⟩

theorem names_back {g : Gm} (h : good g = true) : (g.rules.map (fun r => (name g r.1).1)).foldl put [] = g.names := by
  have hp := good_parts h
  have hc : comes (g.rules.map (·.1)) g.terms.length = some ((g.terms.length : Int) + g.names.length) := by simpa [inOrder] using hp.2.2.2.2.1
  have := put_comes g.names (nodup_of_each hp.2.1) g.terms.length (g.rules.map (·.1)) g.terms.length _ (Int.le_refl _) hc (Int.le_refl _) (fun x hx => by
    obtain ⟨r, hr, rfl⟩ := List.mem_map.1 hx
    have := (rule_fits h r hr).1
    unfold isN at this
    exact (of_decide_eq_true this).1)
  rw [show ((g.terms.length : Int) - g.terms.length).toNat = 0 from by omega, List.take_zero, show ((g.terms.length : Int) + g.names.length - g.terms.length).toNat = g.names.length from by omega, List.take_length, List.foldl_map] at this
  rw [List.foldl_map]
  refine Eq.trans ?_ this
  refine foldl_same _ _ _ _ fun l r hr => ?_
  rw [name_N (rule_fits h r hr).1]

theorem quotes_back {g : Gm} (ss : List Int) (l : List ByteArray) : (ss.map (kt g)).foldl quoteK l = (ss.filter (isT g)).foldl (fun l x => put l (g.terms.getD (x - 0).toNat ⟨#[]⟩)) l := by
  induction ss generalizing l with
  | nil => rfl
  | cons s r ih =>
    rw [List.map_cons, List.foldl_cons, ih]
    cases ht : isT g s
    · rw [List.filter_cons_of_neg (by rw [ht]; simp)]
      unfold quoteK kt
      rw [ht]; simp
    · rw [List.filter_cons_of_pos ht, List.foldl_cons]
      unfold quoteK kt
      rw [ht, name_T ht]; simp

theorem terms_back {g : Gm} (h : good g = true) : (g.rules.map (fun r => r.2.map (kt g))).foldl (fun l ks => ks.foldl quoteK l) [] = g.terms := by
  have hp := good_parts h
  have hc : comes (seen g) 0 = some (g.terms.length : Int) := by simpa [inOrder] using hp.2.2.2.2.2
  have := put_comes g.terms (nodup_of_each hp.2.2.1) 0 (seen g) 0 _ (Int.le_refl _) hc (by omega) (fun x hx => by
    obtain ⟨r, _, hx⟩ := List.mem_flatMap.1 hx
    have := (List.mem_filter.1 hx).2
    unfold isT at this
    exact (of_decide_eq_true this).1)
  rw [show ((0 : Int) - 0).toNat = 0 from rfl, List.take_zero, show ((g.terms.length : Int) - 0).toNat = g.terms.length from by omega, List.take_length] at this
  refine Eq.trans ?_ this
  unfold seen
  rw [List.foldl_map, List.foldl_flatMap]
  refine foldl_same _ _ _ _ fun l r _ => ?_
  exact quotes_back r.2 l

theorem sym_back {g : Gm} (h : good g = true) (s : Int) (hs : isT g s = true ∨ isN g s = true) : symK g.terms g.names (kt g s) = s := by
  have hp := good_parts h
  unfold symK kt
  cases ht : isT g s
  · have hn : isN g s = true := by rcases hs with h | h; rw [ht] at h; cases h; exact h
    rw [name_N hn]
    unfold isN at hn
    have hn' := of_decide_eq_true hn
    simp only [Bool.false_eq_true, if_false]
    rw [if_neg (by decide), getD_at _ _ _ (by omega), pos_at (nodup_of_each hp.2.1)]
    omega
  · rw [name_T ht]
    unfold isT at ht
    have ht' := of_decide_eq_true ht
    simp only [if_true]
    rw [getD_at _ _ _ (by omega), pos_at (nodup_of_each hp.2.2.1)]
    omega

theorem of_keys {g : Gm} (h : good g = true) (xs : List Al) (hx : xs.map alKey = g.rules.map (rlKey g)) : of xs = .ok g := by
  have hp := good_parts h
  have hsz := of_decide_eq_true hp.1
  have hn : names xs = g.names := by
    have e : xs.map (fun a => a.1.text) = g.rules.map (fun r => (name g r.1).1) := by
      have := congrArg (List.map (fun p : (Int × ByteArray) × List (Int × ByteArray) => p.1.2)) hx
      simpa [List.map_map, alKey, rlKey, tkey, kt, Function.comp_def] using this
    unfold names
    rw [← names_back h, ← e, List.foldl_map]
  have ht : terms xs = g.terms := by
    have e : xs.map (fun a => a.2.map tkey) = g.rules.map (fun r => r.2.map (kt g)) := by
      have := congrArg (List.map (fun p : (Int × ByteArray) × List (Int × ByteArray) => p.2)) hx
      simpa [List.map_map, alKey, rlKey, Function.comp_def] using this
    unfold terms
    rw [← terms_back h, ← e, List.foldl_map]
    refine foldl_same _ _ _ _ fun l a _ => ?_
    unfold quotes
    rw [List.foldl_map]
    rfl
  have hmem : ∀ a ∈ xs, ∃ r ∈ g.rules, alKey a = rlKey g r := fun a ha => by
    have : alKey a ∈ g.rules.map (rlKey g) := by rw [← hx]; exact List.mem_map_of_mem ha
    obtain ⟨r, hr, e⟩ := List.mem_map.1 this
    exact ⟨r, hr, e.symm⟩
  have hu : undef g.names xs = none := by
    have hT : ∀ ts : List Tk, (∀ t ∈ ts, t.kind = 1 → t.text ∈ g.names) → undefT g.names ts = none := fun ts => by
      induction ts with
      | nil => intro _; rfl
      | cons t r ih =>
        intro hh
        rw [undefT, if_neg, ih (fun x hx => hh x (List.mem_cons_of_mem _ hx))]
        rintro ⟨k1, k2⟩
        rw [has_mem (hh t (by simp) k1)] at k2
        cases k2
    have hA : ∀ as : List Al, (∀ a ∈ as, ∀ t ∈ a.2, t.kind = 1 → t.text ∈ g.names) → undef g.names as = none := fun as => by
      induction as with
      | nil => intro _; rfl
      | cons a r ih =>
        intro hh
        rw [undef, hT a.2 (hh a (by simp)), ih (fun x hx => hh x (List.mem_cons_of_mem _ hx))]
        rfl
    refine hA xs fun a ha t ht1 hk => ?_
    obtain ⟨r, hr, e⟩ := hmem a ha
    have e2 : a.2.map tkey = r.2.map (kt g) := congrArg Prod.snd e
    have : tkey t ∈ r.2.map (kt g) := by rw [← e2]; exact List.mem_map_of_mem ht1
    obtain ⟨s, hs, e3⟩ := List.mem_map.1 this
    have hfit := (rule_fits h r hr).2.2 s hs
    have k1 : (kt g s).1 = 1 := by rw [e3]; exact hk
    have k2 : (kt g s).2 = t.text := by rw [e3]; rfl
    have hN : isN g s = true := by
      rcases hfit with hT | hN
      · unfold kt at k1; rw [hT] at k1; simp at k1
      · exact hN
    rw [← k2]
    unfold kt
    simp only
    rw [name_N hN]
    unfold isN at hN
    have := of_decide_eq_true hN
    rw [getD_at _ _ _ (by omega)]
    exact List.getElem_mem _
  have hrl : rules g.terms g.names xs = g.rules := by
    have e : xs.map (rule g.terms g.names) = g.rules := by
      have := congrArg (List.map (fun p : (Int × ByteArray) × List (Int × ByteArray) => ((symK g.terms g.names p.1, p.2.map (symK g.terms g.names)) : Rl))) hx
      rw [List.map_map, List.map_map] at this
      have e1 : ((fun p : (Int × ByteArray) × List (Int × ByteArray) => ((symK g.terms g.names p.1, p.2.map (symK g.terms g.names)) : Rl)) ∘ alKey) = rule g.terms g.names := by
        funext a
        simp only [alKey, rule, Function.comp, List.map_map]
        rfl
      rw [e1] at this
      rw [this]
      refine (List.map_congr_left fun r hr => ?_).trans (List.map_id _)
      have hf := rule_fits h r hr
      simp only [Function.comp, rlKey, id]
      rw [sym_back h r.1 (.inr hf.1), List.map_map]
      refine Prod.ext rfl ?_
      exact (List.map_congr_left fun s hs => by simp only [Function.comp, id]; exact sym_back h s (hf.2.2 s hs)).trans (List.map_id _)
    unfold rules
    have := fold_put_all g.rules [] (by simpa using nodup_of_eachR hp.2.2.2.1)
    rw [List.nil_append] at this
    refine Eq.trans ?_ this
    rw [← List.foldl_map (f := rule g.terms g.names) (g := put), e]
  unfold of
  rw [hn, ht, hu]
  simp only
  rw [if_neg (by omega), hrl]
end Go.Proofs.Ytnphfhoknnnciaa.Sh
