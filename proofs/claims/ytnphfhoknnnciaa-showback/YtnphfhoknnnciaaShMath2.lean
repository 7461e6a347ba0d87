/-
  The mathematics of a grammar written and read again: the tokens of a grammar's text, the alternatives of these, the grammar of these.
-/
import Derived.Test.YtnphfhoknnnciaaShMath
import Derived.Test.YtnphfhoknnnciaaShText
import Derived.Test.YtnphfhoknnnciaaLexRunMath
import Derived.Test.YtnphfhoknnnciaaGrTop
namespace Go.Proofs.Ytnphfhoknnnciaa.Sh
open Go.Proofs.Ytnphfhoknnnciaa.Gr
open Go.Proofs.Ytnphfhoknnnciaa.Rd (Tk Al)

/-- symbols within a definition -/
theorem run_sym (acc : List Al) (l : Tk) : ∀ (ts rest a : List Tk), (∀ t ∈ ts, t.kind = 1 ∨ t.kind = 2) → Rd.run ⟨acc, .body l a⟩ (ts ++ rest) = Rd.run ⟨acc, .body l (a ++ ts)⟩ rest
  | [], rest, a, _ => by simp
  | t :: ts, rest, a, h => by
    rw [List.cons_append, Rd.run, Rd.step_sym (h t (by simp))]
    simp only
    rw [run_sym acc l ts rest (a ++ [t]) (fun x hx => h x (List.mem_cons_of_mem _ hx)), List.append_assoc]
    rfl

/-- a definition's tokens -/
def defK (g : Gm) (r : Rl) : List (Int × ByteArray) := kt g r.1 :: (3, ⟨#[61]⟩) :: (r.2.map (kt g) ++ [(5, ⟨#[59]⟩)])

theorem kt_kind (g : Gm) (s : Int) : (kt g s).1 = 1 ∨ (kt g s).1 = 2 := by
  unfold kt
  cases isT g s
  · exact .inl rfl
  · exact .inr rfl

theorem run_keys (g : Gm) : ∀ (rs : List Rl) (ts : List Tk) (acc : List Al), (∀ r ∈ rs, r.2.length ≤ 8 ∧ isT g r.1 = false) → acc.length + rs.length ≤ 60 → ts.map tkey = rs.flatMap (defK g) →
    ∃ xs, Rd.run ⟨acc, .start⟩ ts = .ok ⟨acc ++ xs, .start⟩ ∧ xs.map alKey = rs.map (rlKey g)
  | [], ts, acc, _, _, h => by
    have : ts = [] := List.map_eq_nil_iff.1 h
    subst this
    exact ⟨[], by simp [Rd.run], rfl⟩
  | r :: rs, ts, acc, hr, hl, h => by
    have hr1 := hr r (by simp)
    rw [List.flatMap_cons] at h
    unfold defK at h
    obtain ⟨a, ts1, rfl, ha, h⟩ := List.map_eq_cons_iff.1 h
    obtain ⟨b, ts2, rfl, hb, h⟩ := List.map_eq_cons_iff.1 h
    obtain ⟨ts3, ts4, rfl, h3, h4⟩ := List.map_eq_append_iff.1 h
    obtain ⟨body, es, rfl, h5, h6⟩ := List.map_eq_append_iff.1 h3
    obtain ⟨e, es', rfl, he, h7⟩ := List.map_eq_cons_iff.1 h6
    have : es' = [] := List.map_eq_nil_iff.1 h7
    subst this
    have ka : a.kind = 1 := by have := congrArg Prod.fst ha; simpa [tkey, kt, hr1.2] using this
    have kb : b.kind = 3 := congrArg Prod.fst hb
    have ke : e.kind = 5 := congrArg Prod.fst he
    have kbody : ∀ t ∈ body, t.kind = 1 ∨ t.kind = 2 := fun t ht => by
      have : tkey t ∈ r.2.map (kt g) := by rw [← h5]; exact List.mem_map_of_mem ht
      obtain ⟨s, _, e⟩ := List.mem_map.1 this
      have := kt_kind g s
      rw [e] at this
      exact this
    have hlen : body.length = r.2.length := by have := congrArg List.length h5; simpa using this
    have hl' : acc.length + rs.length + 1 ≤ 60 := by simpa [Nat.add_assoc] using hl
    obtain ⟨xs, h8, h9⟩ := run_keys g rs ts4 (acc ++ [(a, body)]) (fun x hx => hr x (List.mem_cons_of_mem _ hx)) (by simp; omega) h4
    refine ⟨(a, body) :: xs, ?_, ?_⟩
    · rw [Rd.run, Rd.step_name ka]
      simp only
      rw [Rd.run, Rd.step_is kb]
      simp only
      rw [List.append_assoc, run_sym acc a body _ [] kbody, List.nil_append, List.singleton_append, Rd.run]
      have : Rd.step ⟨acc, .body a body⟩ e = .ok ⟨acc ++ [(a, body)], .start⟩ := by
        simp only [Rd.step]
        rw [if_neg (by omega), if_pos (by omega), if_neg (by omega), if_neg (by omega)]
      rw [this]
      simp only
      rw [h8]
      simp
    · rw [List.map_cons, List.map_cons, h9]
      congr 1
      unfold alKey rlKey
      rw [ha, h5]

/-- a text's tokens, without their places -/
def Lexes (l : List UInt8) (ks : List (Nat × List UInt8)) : Prop := ∀ f p, l.length < f → ∃ us, Lx.scanF f l p = .ok us ∧ us.map (fun t => (t.kind, t.text)) = ks

theorem lexes_nil : Lexes [] [] := fun f p _ => ⟨[], by unfold Lx.scanF; simp [Lx.gap, Lx.run_nil], rfl⟩

theorem lexes_blank {c : UInt8} {l : List UInt8} {ks : List (Nat × List UInt8)} (hc : c = 32 ∨ c = 10) (h : Lexes l ks) : Lexes (c :: l) ks := fun f p hf => by
  obtain ⟨us, h1, h2⟩ := h f (p + 1) (by simp at hf; omega)
  refine ⟨us, ?_, h2⟩
  rw [← h1]
  have hb : (c == 32 || c == 9 || c == 10) = true := by rcases hc with rfl | rfl <;> decide
  unfold Lx.scanF
  rw [Lx.gap, if_pos hb, Nat.add_comm 1, List.drop_succ_cons]
  congr 1
  omega

theorem lexes_tok {w l : List UInt8} {k : Nat} {x : List UInt8} {ks : List (Nat × List UInt8)} (ht : Lx.tokenAt (w ++ l) = some (k, x, w.length)) (hg : Lx.gap false (w ++ l) = 0) (h : Lexes l ks) : Lexes (w ++ l) ((k, x) :: ks) := fun f p hf => by
  have hw := (Lx.tokenAt_len ht).1
  simp only at hw
  rw [List.length_append] at hf
  obtain ⟨f', rfl⟩ : ∃ f', f = f' + 1 := ⟨f - 1, by omega⟩
  obtain ⟨us, h1, h2⟩ := h f' (p + w.length) (by omega)
  refine ⟨⟨k, x, p⟩ :: us, ?_, by simp [h2]⟩
  unfold Lx.scanF
  rw [hg, List.drop_zero, Lx.run_scan ht]
  simp only [List.drop_left, Nat.add_zero]
  rw [h1]
  rfl

theorem gap_head {c : UInt8} {l : List UInt8} (h : (c == 32 || c == 9 || c == 10) = false) (h2 : (c == 35) = false) : Lx.gap false (c :: l) = 0 := by
  rw [Lx.gap, if_neg (by rw [h]; simp), if_neg (by rw [h2]; simp)]

theorem lexes_is {l : List UInt8} {ks : List (Nat × List UInt8)} (h : Lexes l ks) : Lexes (61 :: l) ((3, [61]) :: ks) :=
  lexes_tok (w := [61]) (by simp [Lx.tokenAt]) (gap_head (by decide) (by decide)) h
theorem lexes_end {l : List UInt8} {ks : List (Nat × List UInt8)} (h : Lexes l ks) : Lexes (59 :: l) ((5, [59]) :: ks) :=
  lexes_tok (w := [59]) (by rw [List.singleton_append, Lx.tokenAt, if_neg (by decide), if_neg (by decide), if_pos (by decide)]; rfl) (gap_head (by decide) (by decide)) h

theorem takeWhile_all {p : UInt8 → Bool} : ∀ l : List UInt8, l.all p = true → l.takeWhile p = l
  | [], _ => rfl
  | c :: r, h => by
    rw [List.all_cons, Bool.and_eq_true] at h
    rw [List.takeWhile_cons_of_pos h.1, takeWhile_all r h.2]

theorem lexes_name {n l : List UInt8} {ks : List (Nat × List UInt8)} (hn : Lx.isName n = true) (h : Lexes (32 :: l) ks) : Lexes (n ++ 32 :: l) ((1, n) :: ks) := by
  have hn' := hn
  simp only [Lx.isName, Bool.and_eq_true, decide_eq_true_eq] at hn'
  obtain ⟨⟨⟨h1, h2⟩, h3⟩, h4⟩ := hn'
  cases n with
  | nil => simp at h1
  | cons c r =>
    have hc : Lx.lt c = true := h3
    rw [Lx.lt_eq] at hc
    have hc' := of_decide_eq_true hc
    have ne : ∀ d : UInt8, ((d.toNat : Int) < 65 ∨ (90 < (d.toNat : Int) ∧ (d.toNat : Int) < 97) ∨ 122 < (d.toNat : Int)) → (c == d) = false := fun d hd => by
      rw [Lx.eq_nat]; exact decide_eq_false (by omega)
    have htw : ((c :: r) ++ 32 :: l).takeWhile Lx.mr = c :: r := by
      rw [Lx.takeWhile_append_stop (by decide), takeWhile_all _ h4]
    refine lexes_tok ?_ ?_ h
    · rw [List.cons_append] at htw ⊢
      rw [Lx.tokenAt, if_neg (by rw [ne 61 (by decide)]; simp), if_neg (by rw [ne 124 (by decide)]; simp), if_neg (by rw [ne 59 (by decide)]; simp), if_neg (by rw [ne 39 (by decide)]; simp), htw, if_pos hn]
    · rw [List.cons_append]
      exact gap_head (by rw [ne 32 (by decide), ne 9 (by decide), ne 10 (by decide)]; rfl) (ne 35 (by decide))

theorem lexes_quote {x l : List UInt8} {ks : List (Nat × List UInt8)} (hx : Lx.isTerm x = true) (h : Lexes l ks) : Lexes (39 :: (x ++ [39]) ++ l) ((2, x) :: ks) := by
  have hx' := hx
  simp only [Lx.isTerm, Bool.and_eq_true, decide_eq_true_eq] at hx'
  have hall : x.all (fun y => !(y == 39)) = true := by
    rw [List.all_eq_true]
    intro y hy
    have := List.all_eq_true.1 hx'.2 y hy
    simp only [Lx.tm, Bool.and_eq_true] at this
    exact this.2
  have htw : (x ++ 39 :: l).takeWhile (fun y => !(y == 39)) = x := by
    rw [Lx.takeWhile_append_stop (by decide), takeWhile_all _ hall]
  refine lexes_tok ?_ ?_ h
  · rw [List.cons_append, List.append_assoc, List.singleton_append, Lx.tokenAt_quote, htw, if_pos ⟨by simp, hx⟩]
    simp
  · rw [List.cons_append]
    exact gap_head (by decide) (by decide)

/-- a symbol as a text's token -/
def kb (g : Gm) (s : Int) : Nat × List UInt8 := (if isT g s then 2 else 1, (name g s).1.data.toList)


theorem lexes_sym {g : Gm} (h : good g = true) (s : Int) (hs : isT g s = true ∨ isN g s = true) {l : List UInt8} {ks : List (Nat × List UInt8)} (hl : Lexes (32 :: l) ks) : Lexes ((symT g s).data.toList ++ 32 :: l) (kb g s :: ks) := by
  have hp := good_parts h
  unfold symT kb
  cases ht : isT g s
  · have hn : isN g s = true := by rcases hs with h | h; rw [ht] at h; cases h; exact h
    have hnm : Lx.isName (name g s).1.data.toList = true := by
      rw [name_N hn]
      unfold isN at hn
      have := of_decide_eq_true hn
      rw [getD_at _ _ _ (by omega)]
      exact (each_get hp.2.1 _ (by omega)).1
    exact lexes_name hnm hl
  · have hnm : Lx.isTerm (name g s).1.data.toList = true := by
      rw [name_T ht]
      unfold isT at ht
      have := of_decide_eq_true ht
      rw [getD_at _ _ _ (by omega)]
      exact (each_get hp.2.2.1 _ (by omega)).1
    have e : (⟨#[39]⟩ ++ (name g s).1 ++ ⟨#[39]⟩ : ByteArray).data.toList = 39 :: ((name g s).1.data.toList ++ [39]) := by simp
    simp only [if_true]
    rw [e]
    exact lexes_quote hnm hl

theorem symsB {g : Gm} (ss : List Int) (acc : ByteArray) : (symsT g acc ss).data.toList = acc.data.toList ++ ss.flatMap (fun s => 32 :: (symT g s).data.toList) := by
  induction ss generalizing acc with
  | nil => simp [symsT]
  | cons s r ih =>
    have : symsT g acc (s :: r) = symsT g (acc ++ (⟨#[32]⟩ ++ symT g s)) r := rfl
    rw [this, ih]
    simp

theorem lexes_syms {g : Gm} (h : good g = true) (ss : List Int) (hs : ∀ s ∈ ss, isT g s = true ∨ isN g s = true) {l : List UInt8} {ks : List (Nat × List UInt8)} (hl : Lexes l ks) :
    Lexes (ss.flatMap (fun s => 32 :: (symT g s).data.toList) ++ 32 :: 59 :: 10 :: l) (ss.map (kb g) ++ (5, [59]) :: ks) := by
  induction ss with
  | nil => exact lexes_blank (.inl rfl) (lexes_end (lexes_blank (.inr rfl) hl))
  | cons s r ih =>
    have ih' := ih (fun x hx => hs x (List.mem_cons_of_mem _ hx))
    rw [List.flatMap_cons, List.map_cons, List.cons_append, List.cons_append, List.append_assoc, List.cons_append]
    obtain ⟨z, hz⟩ : ∃ z, r.flatMap (fun s => 32 :: (symT g s).data.toList) ++ 32 :: 59 :: 10 :: l = 32 :: z := by
      cases r with
      | nil => exact ⟨_, rfl⟩
      | cons s' r' => exact ⟨_, rfl⟩
    rw [hz] at ih' ⊢
    exact lexes_blank (.inl rfl) (lexes_sym h s (hs s (by simp)) ih')

theorem lexes_line {g : Gm} (h : good g = true) (r : Rl) (hr : r ∈ g.rules) {l : List UInt8} {ks : List (Nat × List UInt8)} (hl : Lexes l ks) :
    Lexes ((ruleT g r).data.toList ++ 32 :: 59 :: 10 :: l) (kb g r.1 :: (3, [61]) :: (r.2.map (kb g) ++ (5, [59]) :: ks)) := by
  have hf := rule_fits h r hr
  unfold ruleT
  rw [symsB]
  have e : (symT g r.1 ++ ⟨#[32, 61]⟩ : ByteArray).data.toList = (symT g r.1).data.toList ++ [32, 61] := by simp
  rw [e, List.append_assoc, List.append_assoc]
  exact lexes_sym h r.1 (.inr hf.1) (lexes_blank (.inl rfl) (lexes_is (lexes_syms h r.2 hf.2.2 hl)))

theorem allB {g : Gm} (rs : List Rl) : (allT g rs).data.toList = rs.flatMap (fun r => (ruleT g r).data.toList ++ [32, 59, 10]) := by
  have : ∀ (rs : List Rl) (acc : ByteArray), (rs.foldl (fun s r => s ++ (ruleT g r ++ endT)) acc).data.toList = acc.data.toList ++ rs.flatMap (fun r => (ruleT g r).data.toList ++ [32, 59, 10]) := fun rs => by
    induction rs with
    | nil => intro acc; simp
    | cons r rs ih => intro acc; rw [List.foldl_cons, ih]; simp [endT]
  unfold allT
  rw [this]
  simp

/-- a definition as a text's tokens -/
def defB (g : Gm) (r : Rl) : List (Nat × List UInt8) := kb g r.1 :: (3, [61]) :: (r.2.map (kb g) ++ [(5, [59])])

theorem lexes_all {g : Gm} (h : good g = true) (rs : List Rl) (hr : ∀ r ∈ rs, r ∈ g.rules) : Lexes (rs.flatMap (fun r => (ruleT g r).data.toList ++ [32, 59, 10])) (rs.flatMap (defB g)) := by
  induction rs with
  | nil => exact lexes_nil
  | cons r rs ih =>
    have := lexes_line h r (hr r (by simp)) (ih (fun x hx => hr x (List.mem_cons_of_mem _ hx)))
    rw [List.flatMap_cons, List.flatMap_cons]
    simpa [defB] using this

/-- THE GRAMMAR OF A GRAMMAR's TEXT IS IT -/
theorem of_text {g : Gm} (h : good g = true) (h2 : (allT g g.rules).size ≤ 2000) : ofS (allT g g.rules).data.toList = (0, 0, g) := by
  have hp := good_parts h
  have hsz := of_decide_eq_true hp.1
  have hlen : (allT g g.rules).data.toList.length ≤ 2000 := by simpa using h2
  have hL := lexes_all h g.rules (fun r hr => hr)
  rw [← allB] at hL
  obtain ⟨us, h3, h4⟩ := hL ((allT g g.rules).data.toList.length + 1) 0 (Nat.lt_succ_self _)
  rw [← Lx.tokens_scan] at h3
  have hk : (us.map tkOf).map tkey = g.rules.flatMap (defK g) := by
    have e1 : (us.map tkOf).map tkey = (us.map (fun t => (t.kind, t.text))).map (fun k : Nat × List UInt8 => ((k.1 : Int), (⟨k.2.toArray⟩ : ByteArray))) := by
      rw [List.map_map, List.map_map]; rfl
    rw [e1, h4, List.map_flatMap]
    congr 1
    funext r
    have e2 : ∀ s, (((kb g s).1 : Int), (⟨(kb g s).2.toArray⟩ : ByteArray)) = kt g s := fun s => by
      unfold kb kt
      cases isT g s <;> simp
    unfold defB defK
    simp only [List.map_cons, List.map_append, List.map_map, List.map_nil]
    rw [e2]
    congr 3
    exact List.map_congr_left fun s _ => e2 s
  obtain ⟨xs, h5, h6⟩ := run_keys g g.rules (us.map tkOf) [] (fun r hr => ⟨(rule_fits h r hr).2.1, by
    have := (rule_fits h r hr).1
    unfold isN at this
    have := of_decide_eq_true this
    unfold isT
    exact decide_eq_false (by omega)⟩) (by simp; omega) hk
  have hne : xs ≠ [] := by
    intro e
    subst e
    have := congrArg List.length h6
    simp at this
    omega
  have hof := of_keys h xs h6
  rw [List.nil_append] at h5
  have halts : Rd.altsG (us.map tkOf) (allT g g.rules).data.toList.length = (0, 0, xs) := by
    refine Rd.altsG_ok ?_
    unfold Rd.alts Rd.whole
    rw [h5]
    simp only [Rd.fin]
    rw [if_neg (by cases xs with | nil => exact absurd rfl hne | cons a b => simp)]
  have hT : toksOf (allT g g.rules).data.toList = (0, 0, us.map tkOf) := by
    have e : tokensG (allT g g.rules).data.toList = (0, 0, us) := by unfold tokensG; rw [if_neg (by omega), h3]
    unfold toksOf
    rw [e]
  unfold ofS Gr.ofG
  rw [hT]
  simp only
  rw [if_neg (by simp), halts]
  simp only
  rw [if_neg (by simp), hof]
end Go.Proofs.Ytnphfhoknnnciaa.Sh
