/-
  The plain mathematics of layer 3: what is read may be.
-/
import Derived.Test.YtfanpbbgnlllgaaGrMath4
import Derived.Test.YtfanpbbgnlllgaaGrMath5
namespace Go.Proofs.Ytfanpbbgnlllgaa.Gr
open Go.Proofs.Ytfanpbbgnlllgaa.Rd

theorem each_of {α : Type} [DecidableEq α] {p : α → Bool} {l : List α} (hn : l.Nodup) (hp : ∀ x ∈ l, p x = true) : each p l = true := by
  refine each_all (fun k hk => ?_)
  rw [hp _ (List.getElem_mem hk), has_not ?_]; rfl
  intro h
  obtain ⟨i, hi, e⟩ := List.mem_take_iff_getElem.1 h
  have hil : i < l.length := by omega
  exact List.pairwise_iff_getElem.1 hn i k hil hk (by omega) e

theorem put_nodup {α : Type} [DecidableEq α] {l : List α} {x : α} (h : l.Nodup) : (put l x).Nodup := by
  unfold put; split
  · exact h
  · rename_i hx
    rw [List.nodup_append]
    refine ⟨h, by simp, fun a ha b hb => ?_⟩
    simp at hb; subst hb
    intro e; subst e; exact hx ha
theorem put_pre {α : Type} [DecidableEq α] (l : List α) (x : α) : l <+: put l x := by
  unfold put; split
  · exact List.prefix_refl _
  · exact List.prefix_append _ _
theorem fold_nodup {α β : Type} [DecidableEq β] (g : α → β) : ∀ (xs : List α) (l : List β), l.Nodup → (xs.foldl (fun l x => put l (g x)) l).Nodup
  | [], _, h => h
  | _ :: r, _, h => fold_nodup g r _ (put_nodup h)
theorem fold_pre {α β : Type} (f : β → α → β) (P : β → β → Prop) (hr : ∀ l, P l l) (ht : ∀ a b c, P a b → P b c → P a c) (hs : ∀ l x, P l (f l x)) : ∀ (xs : List α) (l : β), P l (xs.foldl f l)
  | [], l => hr l
  | x :: r, l => ht _ _ _ (hs l x) (fold_pre f P hr ht hs r (f l x))

theorem quote_pre (l : List ByteArray) (t : Tk) : l <+: quote l t := by
  unfold quote; split
  · exact put_pre _ _
  · exact List.prefix_refl _
theorem quotesF_pre (ts : List Tk) (l : List ByteArray) : l <+: ts.foldl quote l :=
  fold_pre quote (· <+: ·) (fun _ => List.prefix_refl _) (fun _ _ _ h1 h2 => h1.trans h2) quote_pre ts l
theorem termsF_pre (az : List Al) (l : List ByteArray) : l <+: az.foldl quotes l :=
  fold_pre quotes (· <+: ·) (fun _ => List.prefix_refl _) (fun _ _ _ h1 h2 => h1.trans h2) (fun l a => quotesF_pre a.2 l) az l
theorem namesF_pre (az : List Al) (l : List ByteArray) : l <+: az.foldl (fun l a => put l a.1.text) l :=
  fold_pre _ (· <+: ·) (fun _ => List.prefix_refl _) (fun _ _ _ h1 h2 => h1.trans h2) (fun l a => put_pre l a.1.text) az l

theorem names_pre (xs : List Al) (k : Nat) : names (xs.take k) <+: names xs := by
  have e : names xs = (xs.drop k).foldl (fun l a => put l a.1.text) (names (xs.take k)) := by
    unfold names; rw [← List.foldl_append, List.take_append_drop]
  rw [e]; exact namesF_pre _ _
theorem terms_pre (xs : List Al) (k : Nat) : terms (xs.take k) <+: terms xs := by
  have e : terms xs = (xs.drop k).foldl quotes (terms (xs.take k)) := by
    unfold terms; rw [← List.foldl_append, List.take_append_drop]
  rw [e]; exact termsF_pre _ _
theorem quotes_pre (xs : List Al) (k : Nat) (hk : k < xs.length) (j : Nat) : (xs[k].2.take j).foldl quote (terms (xs.take k)) <+: terms xs := by
  refine List.IsPrefix.trans ?_ (terms_pre xs (k + 1))
  rw [terms_step xs k hk]
  have e : quotes (terms (xs.take k)) xs[k] = (xs[k].2.drop j).foldl quote ((xs[k].2.take j).foldl quote (terms (xs.take k))) := by
    unfold quotes; rw [← List.foldl_append, List.take_append_drop]
  rw [e]; exact quotesF_pre _ _

theorem terms_nodup (xs : List Al) : (terms xs).Nodup := by
  have hq : ∀ (ts : List Tk) (l : List ByteArray), l.Nodup → (ts.foldl quote l).Nodup := by
    intro ts
    induction ts with
    | nil => exact fun _ h => h
    | cons t r ih =>
      intro l h
      refine ih _ ?_
      unfold quote; split
      · exact put_nodup h
      · exact h
  have : ∀ (az : List Al) (l : List ByteArray), l.Nodup → (az.foldl quotes l).Nodup := by
    intro az
    induction az with
    | nil => exact fun _ h => h
    | cons a r ih => exact fun l h => ih _ (hq _ _ h)
  exact this xs [] List.nodup_nil

theorem pos_pre {α : Type} [DecidableEq α] {x : α} {l m : List α} (h : l <+: m) (hx : x ∈ l) : pos x m = pos x l := by
  obtain ⟨u, rfl⟩ := h
  induction l with
  | nil => simp at hx
  | cons y r ih =>
    rw [List.cons_append, pos, pos]
    by_cases e : x = y
    · rw [if_pos e, if_pos e]
    · rw [if_neg e, if_neg e, ih (by rcases List.mem_cons.1 hx with h | h; exact absurd h e; exact h)]
theorem pos_end {α : Type} [DecidableEq α] {x : α} {l m : List α} (h : l ++ [x] <+: m) (hx : x ∉ l) : pos x m = l.length := by
  rw [pos_pre h (by simp)]
  clear h
  induction l with
  | nil => simp [pos]
  | cons y r ih =>
    have hxy : ¬ x = y := fun e => hx (by rw [e]; exact List.mem_cons_self)
    have hr := ih (fun h => hx (List.mem_cons_of_mem _ h))
    rw [List.cons_append, pos, if_neg hxy, hr, List.length_cons, if_neg (by omega)]
    omega
theorem pos_lt {α : Type} [DecidableEq α] {x : α} {l : List α} (h : x ∈ l) : 0 ≤ pos x l ∧ pos x l < l.length := by
  obtain ⟨k, hk, e, _⟩ := pos_mem h
  omega

theorem comes_append (l m : List Int) (n : Int) : comes (l ++ m) n = (comes l n).bind (comes m) := by
  induction l generalizing n with
  | nil => rfl
  | cons x r ih =>
    rw [List.cons_append, comes, comes]
    by_cases h : n < x
    · rw [if_pos h, if_pos h]; rfl
    · rw [if_neg h, if_neg h]; exact ih _

/-- one more, new or come -/
theorem comes_one {L : List Int} {lo n y : Int} (h : comes L lo = some n) (hy : y ≤ n) : comes (L ++ [y]) lo = some (if y = n then n + 1 else n) := by
  rw [comes_append, h]
  show comes [y] n = _
  rw [comes, if_neg (by omega)]; rfl

/-- what the tokens of the text are -/
def tkGood (t : Tk) : Prop := (t.kind = 1 → Lx.isName t.text.data.toList = true) ∧ (t.kind = 2 → Lx.isTerm t.text.data.toList = true)

theorem name_in {xs : List Al} (k : Nat) (a : Al) (ha : a ∈ xs.take k) : a.1.text ∈ names (xs.take k) := (foldl_put_sub (fun a : Al => a.1.text) (xs.take k) []).2 a ha

/-- a symbol of a right side, where all is defined -/
theorem sym_term {xs : List Al} {N : List ByteArray} {t : Tk} (h : t.kind = 2) : sym (terms xs) N t = pos t.text (terms xs) := by unfold sym; rw [if_pos h]

theorem right_in {xs : List Al} (k : Nat) (a : Al) (ha : a ∈ xs.take k) (t : Tk) (ht : t ∈ a.2) (h2 : t.kind = 2) : t.text ∈ terms (xs.take k) := (terms_sub (xs.take k) []).2 a ha t ht h2

/-- is a number a terminal's? -/
def isTn (n : Nat) (s : Int) : Bool := decide (0 ≤ s ∧ s < n)

section
variable {xs : List Al} (hx : ∀ x ∈ xs, alP tkGood x)
include hx

theorem left_sym (T N : List ByteArray) (a : Al) (ha : a ∈ xs) : (rule T N a).1 = (T.length : Int) + pos a.1.text N := by
  have := (hx a ha).1.1
  unfold rule sym
  rw [if_neg (by rw [this]; decide)]

/-- left sides come in order -/
theorem lefts_come (T : List ByteArray) (k : Nat) (hk : k ≤ xs.length) : comes ((rules T (names xs) (xs.take k)).map (·.1)) T.length = some ((T.length : Int) + (names (xs.take k)).length) := by
  induction k with
  | zero => simp [rules, names, comes]
  | succ k ih =>
    have hlt : k < xs.length := by omega
    have ih := ih (by omega)
    have hl := left_sym hx T (names xs) xs[k] (List.getElem_mem hlt)
    have hpre := names_pre xs (k + 1)
    rw [rules_step _ _ _ _ hlt, names_step _ _ hlt]
    rw [names_step _ _ hlt] at hpre
    by_cases hin : xs[k].1.text ∈ names (xs.take k)
    · have hp := pos_lt hin
      rw [← pos_pre (names_pre xs k) hin] at hp
      rw [put_in hin]
      unfold put
      split
      · exact ih
      · rw [List.map_append, List.map_cons, List.map_nil, comes_one ih (by rw [hl]; omega), if_neg (by rw [hl]; omega)]
    · rw [put_new hin] at hpre ⊢
      have hp := pos_end hpre hin
      have hnew : rule T (names xs) xs[k] ∉ rules T (names xs) (xs.take k) := by
        intro h
        obtain ⟨a, ha, e⟩ := rules_mem _ _ _ _ _ h
        have hl2 := left_sym hx T (names xs) a (List.mem_of_mem_take ha)
        have hia := name_in k a ha
        have h3 := pos_lt hia
        rw [← pos_pre (names_pre xs k) hia] at h3
        rw [e] at hl
        rw [hl2] at hl
        omega
      rw [put_new hnew, List.map_append, List.map_cons, List.map_nil, comes_one ih (by rw [hl]; omega), if_pos (by rw [hl, hp]), List.length_append]
      simp; omega

theorem quotes_come (N : List ByteArray) (hN : ∀ x ∈ xs, ∀ t ∈ x.2, t.kind = 1 → t.text ∈ N) (k : Nat) (hk : k < xs.length) (L : List Int) (hL : comes L 0 = some (((terms (xs.take k)).length : Nat) : Int)) (j : Nat) (hj : j ≤ xs[k].2.length) :
    comes (L ++ ((xs[k].2.take j).map (sym (terms xs) N)).filter (isTn (terms xs).length)) 0 = some ((((xs[k].2.take j).foldl quote (terms (xs.take k))).length : Nat) : Int) := by
  induction j with
  | zero => simpa using hL
  | succ j ih =>
    have hlt : j < xs[k].2.length := by omega
    have ih := ih (by omega)
    have hpre := quotes_pre xs k hk (j + 1)
    have hpre0 := quotes_pre xs k hk j
    rw [quotes_step _ _ _ hlt] at hpre ⊢
    have e : ((xs[k].2.take (j + 1)).map (sym (terms xs) N)).filter (isTn (terms xs).length) = ((xs[k].2.take j).map (sym (terms xs) N)).filter (isTn (terms xs).length) ++ [sym (terms xs) N xs[k].2[j]].filter (isTn (terms xs).length) := by
      rw [List.take_add_one, List.getElem?_eq_getElem hlt, List.map_append, List.filter_append]; rfl
    rw [e, ← List.append_assoc]
    have hkind := ((hx xs[k] (List.getElem_mem hk)).2 xs[k].2[j] (List.getElem_mem hlt)).1
    by_cases h2 : xs[k].2[j].kind = 2
    · rw [sym_term h2]
      have hq : quote ((xs[k].2.take j).foldl quote (terms (xs.take k))) xs[k].2[j] = put ((xs[k].2.take j).foldl quote (terms (xs.take k))) xs[k].2[j].text := by unfold quote; rw [if_pos h2]
      rw [hq] at hpre ⊢
      generalize (xs[k].2.take j).foldl quote (terms (xs.take k)) = cur at *
      generalize xs[k].2[j].text = x at *
      have hlen : cur.length ≤ (terms xs).length := hpre0.length_le
      by_cases hin : x ∈ cur
      · have hp := pos_lt hin
        rw [← pos_pre hpre0 hin] at hp
        have ht : isTn (terms xs).length (pos x (terms xs)) = true := by unfold isTn; rw [decide_eq_true_eq]; omega
        rw [put_in hin, List.filter_cons, if_pos ht, List.filter_nil, comes_one ih (by omega), if_neg (by omega)]
      · rw [put_new hin] at hpre ⊢
        have hp := pos_end hpre hin
        have hlen2 := hpre.length_le
        rw [List.length_append, List.length_singleton] at hlen2
        have ht : isTn (terms xs).length (pos x (terms xs)) = true := by unfold isTn; rw [decide_eq_true_eq]; omega
        rw [List.filter_cons, if_pos ht, List.filter_nil, comes_one ih (by omega), if_pos hp, List.length_append]
        simp
    · have h1 : xs[k].2[j].kind = 1 := by omega
      have hq : quote ((xs[k].2.take j).foldl quote (terms (xs.take k))) xs[k].2[j] = (xs[k].2.take j).foldl quote (terms (xs.take k)) := by unfold quote; rw [if_neg h2]
      have hs : sym (terms xs) N xs[k].2[j] = ((terms xs).length : Int) + pos xs[k].2[j].text N := by unfold sym; rw [if_neg h2]
      have hp := pos_lt (hN xs[k] (List.getElem_mem hk) _ (List.getElem_mem hlt) h1)
      have ht : isTn (terms xs).length (sym (terms xs) N xs[k].2[j]) = false := by unfold isTn; rw [hs, decide_eq_false_iff_not]; omega
      rw [hq, List.filter_cons, if_neg (by rw [ht]; decide), List.filter_nil, List.append_nil]
      exact ih

/-- terminals come in order -/
theorem terms_come (N : List ByteArray) (hN : ∀ x ∈ xs, ∀ t ∈ x.2, t.kind = 1 → t.text ∈ N) (k : Nat) (hk : k ≤ xs.length) :
    comes ((rules (terms xs) N (xs.take k)).flatMap (fun r => r.2.filter (isTn (terms xs).length))) 0 = some (((terms (xs.take k)).length : Nat) : Int) := by
  induction k with
  | zero => simp [rules, terms, comes]
  | succ k ih =>
    have hlt : k < xs.length := by omega
    have ih := ih (by omega)
    rw [rules_step _ _ _ _ hlt, terms_step _ _ hlt]
    by_cases hin : rule (terms xs) N xs[k] ∈ rules (terms xs) N (xs.take k)
    · rw [put_in hin]
      have hsame : quotes (terms (xs.take k)) xs[k] = terms (xs.take k) := by
        refine quotes_in _ _ (fun t ht h2 => ?_)
        obtain ⟨a, ha, e⟩ := rules_mem _ _ _ _ _ hin
        have e2 : xs[k].2.map (sym (terms xs) N) = a.2.map (sym (terms xs) N) := congrArg Prod.snd e
        have hm : sym (terms xs) N t ∈ a.2.map (sym (terms xs) N) := by rw [← e2]; exact List.mem_map_of_mem ht
        obtain ⟨u, hu, eu⟩ := List.mem_map.1 hm
        have hax := List.mem_of_mem_take ha
        have htT : t.text ∈ terms xs := (terms_sub xs []).2 _ (List.getElem_mem hlt) t ht h2
        have hp := pos_lt htT
        have hku := ((hx a hax).2 u hu).1
        rw [sym_term h2] at eu
        have hu2 : u.kind = 2 := by
          by_cases k2 : u.kind = 2
          · exact k2
          · have h1 : u.kind = 1 := by omega
            have hq := pos_lt (hN a hax u hu h1)
            have hs : sym (terms xs) N u = ((terms xs).length : Int) + pos u.text N := by unfold sym; rw [if_neg k2]
            omega
        rw [sym_term hu2] at eu
        obtain ⟨i, hi, e3, e4⟩ := pos_mem htT
        have e5 := pos_get u.text (terms xs) i hi (eu.trans e3)
        rw [← e4, e5]
        exact right_in k a ha u hu hu2
      rw [hsame]; exact ih
    · rw [put_new hin, List.flatMap_append]
      have := quotes_come hx N hN k hlt _ ih xs[k].2.length (Nat.le_refl _)
      rw [List.take_length] at this
      unfold quotes
      simpa [rule] using this

/-- what is read may be -/
theorem good_of (hne : xs ≠ []) (h60 : xs.length ≤ 60) (h8 : ∀ x ∈ xs, x.2.length ≤ 8) {g : Gm} (h : of xs = .ok g) : good g = true := by
  unfold of at h
  split at h
  · cases h
  · rename_i hu
    split at h
    · cases h
    · rename_i hbig
      cases h
      have hN : ∀ x ∈ xs, ∀ t ∈ x.2, t.kind = 1 → t.text ∈ names xs := by
        have hT : ∀ ts : List Tk, undefT (names xs) ts = none → ∀ t ∈ ts, t.kind = 1 → t.text ∈ names xs := by
          intro ts
          induction ts with
          | nil => exact fun _ t ht => by simp at ht
          | cons u r ih =>
            intro hh t ht hk
            rw [undefT] at hh
            split at hh
            · cases hh
            · rename_i hc
              rcases List.mem_cons.1 ht with rfl | ht
              · cases hb : has t.text (names xs)
                · exact absurd ⟨hk, hb⟩ hc
                · exact has_yes hb
              · exact ih hh t ht hk
        have hA : ∀ zs : List Al, undef (names xs) zs = none → ∀ x ∈ zs, ∀ t ∈ x.2, t.kind = 1 → t.text ∈ names xs := by
          intro zs
          induction zs with
          | nil => exact fun _ x hx => by simp at hx
          | cons z r ih =>
            intro hh x hxz
            rw [undef] at hh
            obtain ⟨h1, h2⟩ := Option.or_eq_none_iff.1 hh
            rcases List.mem_cons.1 hxz with rfl | hxz
            · exact hT _ h1
            · exact ih h2 x hxz
        exact hA xs hu
      have hTk : ∀ x ∈ xs, ∀ t ∈ x.2, t.kind = 2 → t.text ∈ terms xs := (terms_sub xs []).2
      have hin : ∀ x ∈ xs, x.1.text ∈ names xs := (foldl_put_sub (fun a : Al => a.1.text) xs []).2
      have hrin : ∀ x ∈ xs, rule (terms xs) (names xs) x ∈ rules (terms xs) (names xs) xs := (foldl_put_sub (fun a : Al => rule (terms xs) (names xs) a) xs []).2
      have hrm : ∀ r ∈ rules (terms xs) (names xs) xs, ∃ a ∈ xs, r = rule (terms xs) (names xs) a := fun r hr => by
        have := rules_mem (terms xs) (names xs) xs xs.length r (by rw [List.take_length]; exact hr)
        rw [List.take_length] at this; exact this
      obtain ⟨x0, hx0⟩ := List.exists_mem_of_ne_nil xs hne
      have n1 : 1 ≤ (names xs).length := List.length_pos_of_mem (hin x0 hx0)
      have r1 : 1 ≤ (rules (terms xs) (names xs) xs).length := List.length_pos_of_mem (hrin x0 hx0)
      have r2 := rules_len (terms xs) (names xs) xs xs.length
      rw [List.take_length] at r2
      have g1 : sizes ⟨terms xs, names xs, rules (terms xs) (names xs) xs⟩ = true := by
        unfold sizes; rw [decide_eq_true_eq]; exact ⟨n1, by show (names xs).length ≤ 40; omega, by show (terms xs).length ≤ 40; omega, r1, by show (rules _ _ xs).length ≤ 60; omega⟩
      have g2 : each (fun s => Lx.isName s.data.toList) (names xs) = true := by
        refine each_of (fold_nodup (fun a : Al => a.1.text) xs [] List.nodup_nil) (fun s hs => ?_)
        obtain ⟨a, ha, rfl⟩ := names_mem xs s hs
        exact (hx a ha).1.2.1 (hx a ha).1.1
      have g3 : each (fun s => Lx.isTerm s.data.toList) (terms xs) = true := by
        refine each_of (terms_nodup xs) (fun s hs => ?_)
        obtain ⟨a, ha, t, ht, hk, rfl⟩ := terms_mem xs s hs
        exact ((hx a ha).2 t ht).2.2 hk
      have g4 : each (fits ⟨terms xs, names xs, rules (terms xs) (names xs) xs⟩) (rules (terms xs) (names xs) xs) = true := by
        refine each_of (fold_nodup (fun a : Al => rule (terms xs) (names xs) a) xs [] List.nodup_nil) (fun r hr => ?_)
        obtain ⟨a, ha, rfl⟩ := hrm r hr
        have hl := left_sym hx (terms xs) (names xs) a ha
        have hp := pos_lt (hin a ha)
        simp only [fits, Bool.and_eq_true, decide_eq_true_eq, List.all_eq_true]
        refine ⟨⟨?_, ?_⟩, fun s hs => ?_⟩
        · unfold isN; rw [decide_eq_true_eq]; simp only; omega
        · have := h8 a ha; simpa [rule] using this
        · obtain ⟨t, ht, rfl⟩ := List.mem_map.1 (show s ∈ a.2.map (sym (terms xs) (names xs)) from hs)
          have hk := ((hx a ha).2 t ht).1
          by_cases k2 : t.kind = 2
          · have hq := pos_lt (hTk a ha t ht k2)
            rw [Bool.or_eq_true]; left
            unfold isT; rw [decide_eq_true_eq, sym_term k2]; simp only; omega
          · have hq := pos_lt (hN a ha t ht (by omega))
            have hs : sym (terms xs) (names xs) t = ((terms xs).length : Int) + pos t.text (names xs) := by unfold sym; rw [if_neg k2]
            rw [Bool.or_eq_true]; right
            unfold isN; rw [decide_eq_true_eq, hs]; simp only; omega
      have g5 : inOrder ((rules (terms xs) (names xs) xs).map (·.1)) (terms xs).length (((terms xs).length : Int) + (names xs).length) = true := by
        have := lefts_come hx (terms xs) xs.length (Nat.le_refl _)
        rw [List.take_length] at this
        unfold inOrder; rw [this]; simp
      have g6 : inOrder (seen ⟨terms xs, names xs, rules (terms xs) (names xs) xs⟩) 0 (terms xs).length = true := by
        have := terms_come hx (names xs) hN xs.length (Nat.le_refl _)
        rw [List.take_length] at this
        unfold inOrder
        have e : seen ⟨terms xs, names xs, rules (terms xs) (names xs) xs⟩ = (rules (terms xs) (names xs) xs).flatMap (fun r => r.2.filter (isTn (terms xs).length)) := rfl
        rw [e, this]; simp
      simp only [good, g1, g2, g3, g4, g5, g6, Bool.and_self]
end
end Go.Proofs.Ytfanpbbgnlllgaa.Gr
