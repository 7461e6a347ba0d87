/-
  The plain mathematics of layer 10 (depend): occurrences, what hangs on what, a search that tells links. Nothing of the program is imported here.
-/
import Derived.Test.YtdocbgfpnaiijaaFoMath
namespace Go.Proofs.Ytdocbgfpnaiijaa.Dp
open Go.Proofs.Ytdocbgfpnaiijaa.Gr (Rl)
open Go.Proofs.Ytdocbgfpnaiijaa.Fi (has put row cnt2 Shape St grow push)
open Go.Proofs.Ytdocbgfpnaiijaa.Fo (Reach Ok Adv left tab tab_is)

/-! ### occurrences -/
/-- of the i-th rule's right side the first k places of nonterminals, but those -/
def placesTo (T : Nat) (wo : List (Int × Int)) (r : List Int) (i k : Nat) : List (Int × Int) := (List.range k).filterMap fun (j : Nat) => if (T : Int) ≤ r.getD j 0 ∧ ((i : Int), (j : Int)) ∉ wo then some ((i : Int), (j : Int)) else none
/-- of the first i rules -/
def spotsTo (T : Nat) (wo : List (Int × Int)) (rs : List Rl) (i : Nat) : List (Int × Int) := (List.range i).flatMap fun (q : Nat) => placesTo T wo (rs.getD q (0, [])).2 q (rs.getD q (0, [])).2.length
def but (T : Nat) (rs : List Rl) (wo : List (Int × Int)) : List (Int × Int) := spotsTo T wo rs rs.length

theorem placesTo_succ (T : Nat) (wo : List (Int × Int)) (r : List Int) (i k : Nat) : placesTo T wo r i (k + 1) = placesTo T wo r i k ++ (if (T : Int) ≤ r.getD k 0 ∧ ((i : Int), (k : Int)) ∉ wo then [((i : Int), (k : Int))] else []) := by
  unfold placesTo
  rw [List.range_succ, List.filterMap_append]
  congr 1
  by_cases h : (T : Int) ≤ r.getD k 0 ∧ ((i : Int), (k : Int)) ∉ wo
  · simp only [List.filterMap_cons, List.filterMap_nil]; rw [if_pos h, if_pos h]
  · simp only [List.filterMap_cons, List.filterMap_nil]; rw [if_neg h, if_neg h]
theorem spotsTo_succ (T : Nat) (wo : List (Int × Int)) (rs : List Rl) (i : Nat) : spotsTo T wo rs (i + 1) = spotsTo T wo rs i ++ placesTo T wo (rs.getD i (0, [])).2 i (rs.getD i (0, [])).2.length := by
  unfold spotsTo
  rw [List.range_succ, List.flatMap_append]
  simp
theorem mem_placesTo {T : Nat} {wo : List (Int × Int)} {r : List Int} {i k : Nat} {s : Int × Int} : s ∈ placesTo T wo r i k ↔ ∃ j : Nat, j < k ∧ (T : Int) ≤ r.getD j 0 ∧ ((i : Int), (j : Int)) ∉ wo ∧ s = ((i : Int), (j : Int)) := by
  unfold placesTo
  rw [List.mem_filterMap]
  constructor
  · rintro ⟨j, hj, e⟩
    split at e
    · rename_i h
      exact ⟨j, List.mem_range.1 hj, h.1, h.2, (Option.some.inj e).symm⟩
    · cases e
  · rintro ⟨j, hj, h1, h2, rfl⟩
    exact ⟨j, List.mem_range.2 hj, by rw [if_pos ⟨h1, h2⟩]⟩
theorem mem_but {T : Nat} {rs : List Rl} {wo : List (Int × Int)} {s : Int × Int} : s ∈ but T rs wo ↔ ∃ r, ∃ hr : r < rs.length, ∃ k, ∃ hk : k < rs[r].2.length, (T : Int) ≤ rs[r].2[k] ∧ s ∉ wo ∧ s = ((r : Int), (k : Int)) := by
  unfold but spotsTo
  rw [List.mem_flatMap]
  have hg : ∀ r (hr : r < rs.length), rs.getD r (0, []) = rs[r] := fun r hr => by simp [List.getD_eq_getElem?_getD, hr]
  constructor
  · rintro ⟨r, hr, h⟩
    have hr' := List.mem_range.1 hr
    rw [hg r hr'] at h
    obtain ⟨k, hk, h1, h2, rfl⟩ := mem_placesTo.1 h
    have e : rs[r].2.getD k 0 = rs[r].2[k] := by simp [List.getD_eq_getElem?_getD, hk]
    rw [e] at h1
    exact ⟨r, hr', k, hk, h1, h2, rfl⟩
  · rintro ⟨r, hr, k, hk, h1, h2, rfl⟩
    have e : rs[r].2.getD k 0 = rs[r].2[k] := by simp [List.getD_eq_getElem?_getD, hk]
    refine ⟨r, List.mem_range.2 hr, ?_⟩
    rw [hg r hr]
    exact mem_placesTo.2 ⟨k, hk, by rw [e]; exact h1, h2, rfl⟩
theorem placesTo_len (T : Nat) (wo : List (Int × Int)) (r : List Int) (i k : Nat) : (placesTo T wo r i k).length ≤ k := by
  unfold placesTo
  refine Nat.le_trans (List.length_filterMap_le _ _) ?_
  simp
theorem spotsTo_len {T : Nat} {wo : List (Int × Int)} {rs : List Rl} (h8 : ∀ r ∈ rs, r.2.length ≤ 8) : ∀ i, i ≤ rs.length → (spotsTo T wo rs i).length ≤ 8 * i
  | 0, _ => by simp [spotsTo]
  | i + 1, hi => by
    rw [spotsTo_succ, List.length_append]
    have h1 := spotsTo_len h8 (T := T) (wo := wo) i (by omega)
    have hi' : i < rs.length := by omega
    have e : rs.getD i (0, []) = rs[i] := by simp [List.getD_eq_getElem?_getD, hi']
    have h2 := placesTo_len T wo (rs.getD i (0, [])).2 i (rs.getD i (0, [])).2.length
    rw [e] at h2 ⊢
    have := h8 _ (List.getElem_mem hi')
    omega

/-! ### what hangs on what -/
/-- the link that an occurrence makes -/
def link (T : Nat) (rs : List Rl) (s : Int × Int) : Int × Int := ((rs.getD s.1.toNat (0, [])).1 - T, (rs.getD s.1.toNat (0, [])).2.getD s.2.toNat 0 - T)
def Link (T : Nat) (rs : List Rl) (wo : List (Int × Int)) (a b : Int) : Prop := ∃ r, ∃ hr : r < rs.length, ∃ k, ∃ hk : k < rs[r].2.length, (T : Int) ≤ rs[r].2[k] ∧ ((r : Int), (k : Int)) ∉ wo ∧ a = rs[r].1 - T ∧ b = rs[r].2[k] - T
/-- by one or more steps -/
def On (T : Nat) (rs : List Rl) (wo : List (Int × Int)) : Int → Int → Prop := Reach (Link T rs wo) (fun a b => Link T rs wo b a)
theorem link_at {T : Nat} {rs : List Rl} {r k : Nat} (hr : r < rs.length) (hk : k < rs[r].2.length) : link T rs ((r : Int), (k : Int)) = (rs[r].1 - (T : Int), rs[r].2[k] - (T : Int)) := by
  unfold link
  simp [List.getD_eq_getElem?_getD, hr, hk]
theorem mem_links {T : Nat} {rs : List Rl} {wo : List (Int × Int)} {a b : Int} : (a, b) ∈ (but T rs wo).map (link T rs) ↔ Link T rs wo a b := by
  rw [List.mem_map]
  constructor
  · rintro ⟨s, hs, e⟩
    obtain ⟨r, hr, k, hk, h1, h2, rfl⟩ := mem_but.1 hs
    rw [link_at hr hk] at e
    obtain ⟨rfl, rfl⟩ := Prod.mk.inj e
    exact ⟨r, hr, k, hk, h1, h2, rfl, rfl⟩
  · rintro ⟨r, hr, k, hk, h1, h2, rfl, rfl⟩
    exact ⟨_, mem_but.2 ⟨r, hr, k, hk, h1, h2, rfl⟩, link_at hr hk⟩
theorem Link.lt {T n N : Nat} {rs : List Rl} {wo : List (Int × Int)} (hf : Nl.Fit T n rs) (hN : T + N = n) {a b : Int} (h : Link T rs wo a b) : (0 ≤ a ∧ a < N) ∧ 0 ≤ b ∧ b < N := by
  obtain ⟨r, hr, k, hk, h1, _, rfl, rfl⟩ := h
  have hm : rs[r] ∈ rs := List.getElem_mem hr
  have hl := hf.left _ hm
  have hx := hf.right _ hm _ (List.getElem_mem hk)
  omega
theorem On.lt {T n N : Nat} {rs : List Rl} {wo : List (Int × Int)} (hf : Nl.Fit T n rs) (hN : T + N = n) {a b : Int} (h : On T rs wo a b) : (0 ≤ a ∧ a < N) ∧ 0 ≤ b ∧ b < N := by
  refine Reach.all (P := fun a b => (0 ≤ a ∧ a < (N : Int)) ∧ 0 ≤ b ∧ b < (N : Int)) (fun x v q => q.lt hf hN) (fun x y v e q => ⟨(e.lt hf hN).1, q.2⟩) h
/-- what hangs on what goes on -/
theorem On.trans {T : Nat} {rs : List Rl} {wo : List (Int × Int)} {a b c : Int} (h : On T rs wo a b) (h' : On T rs wo b c) : On T rs wo a c := by
  refine Reach.all (P := fun x v => ∀ c, On T rs wo v c → On T rs wo x c) (fun x v q c hc => .step v x c q hc) (fun x y v e q c hc => .step x y c e (q c hc)) h c h'
theorem Link.less {T : Nat} {rs : List Rl} {wo wo' : List (Int × Int)} (hw : ∀ s ∈ wo, s ∈ wo') {a b : Int} (h : Link T rs wo' a b) : Link T rs wo a b := by
  obtain ⟨r, hr, k, hk, h1, h2, h3⟩ := h
  exact ⟨r, hr, k, hk, h1, fun q => h2 (hw _ q), h3⟩
theorem On.less {T : Nat} {rs : List Rl} {wo wo' : List (Int × Int)} (hw : ∀ s ∈ wo, s ∈ wo') {a b : Int} (h : On T rs wo' a b) : On T rs wo a b :=
  Reach.more (fun _ _ q => q.less hw) (fun _ _ q => q.less hw) h

/-! ### a search that tells links -/
/-- amid following up -/
structure Inv (base edge : Int → Int → Prop) (M N : Nat) (todo : Int → Int → Int → Prop) (st : St) : Prop where
  ok : Ok M M N st
  sound : ∀ a v, has st.ss a v = true → Reach base edge a v
  base : ∀ a v, base a v → has st.ss a v = true
  prog : ∀ a b, edge a b → ∀ v, has st.ss a v = true → has st.ss b v = true ∨ (a, v) ∈ st.q ∨ todo a v b
def Heirs (edge : Int → Int → Prop) (N : Nat) (hs : List (List Int)) : Prop := hs.length = N ∧ ∀ a b : Int, 0 ≤ a → (b ∈ hs.getD a.toNat [] ↔ edge a b)
theorem Inv.weak {base edge : Int → Int → Prop} {M N : Nat} {todo todo' : Int → Int → Int → Prop} {st : St} (h : Inv base edge M N todo st) (hw : ∀ x t l, todo x t l → todo' x t l) : Inv base edge M N todo' st :=
  ⟨h.ok, h.sound, h.base, fun a b e v q => (h.prog a b e v q).imp id fun p => p.imp id (hw _ _ _)⟩
theorem Inv.take {base edge : Int → Int → Prop} {M N : Nat} {hs : List (List Int)} {ss : List (List Bool)} {a t : Int} {q : List (Int × Int)} (hM : M + 1 = N) (he : ∀ a b, edge a b → 0 ≤ b ∧ b < N) (hh : Heirs edge N hs) (h : Inv base edge M N (fun _ _ _ => False) ⟨ss, (a, t) :: q⟩) :
    Inv base edge M N (fun _ u l => u = t ∧ l ∈ (hs.getD a.toNat []).drop 0) ⟨ss, q⟩ ∧ left M N ⟨ss, q⟩ < left M N ⟨ss, (a, t) :: q⟩ ∧ (0 ≤ a ∧ a < N) ∧ (0 ≤ t ∧ t < N) ∧ ∀ l ∈ hs.getD a.toNat [], (0 ≤ l ∧ l < N) ∧ Reach base edge l t := by
  have hat := h.ok.q (a, t) (List.mem_cons_self ..)
  have hl := (h.ok.shape.lt hat).1
  have ht := (h.ok.shape.lt hat).2
  refine ⟨⟨⟨h.ok.shape, ?_, fun p hp => h.ok.q p (List.mem_cons_of_mem _ hp), h.ok.lim⟩, h.sound, h.base, fun x b e v hv => ?_⟩, ?_, hl, ⟨ht.1, by omega⟩, fun l hml => ?_⟩
  · have := h.ok.few; simp only [List.length_cons] at this ⊢; omega
  · rcases h.prog x b e v hv with p | p | p
    · exact .inl p
    · rcases List.mem_cons.1 p with p | p
      · obtain ⟨rfl, rfl⟩ := Prod.mk.inj p
        refine .inr (.inr ⟨rfl, ?_⟩)
        rw [List.drop_zero]
        exact (hh.2 x b hl.1).2 e
      · exact .inr (.inl p)
    · exact p.elim
  · unfold left; simp
  · have e := (hh.2 a l hl.1).1 hml
    exact ⟨he a l e, .step a l t e (h.sound _ _ hat)⟩
theorem Inv.again {base edge : Int → Int → Prop} {M N : Nat} {st : St} {t : Int} {ls : List Int} {k : Nat} (hM : M + 1 = N) (hk : k < ls.length) (h : Inv base edge M N (fun _ u l => u = t ∧ l ∈ ls.drop k) st) (hl : 0 ≤ ls[k] ∧ ls[k] < N) (ht : 0 ≤ t ∧ t < N) (hb : Reach base edge ls[k] t) :
    Inv base edge M N (fun _ u l => u = t ∧ l ∈ ls.drop (k + 1)) (grow st ls[k] t) ∧ left M N (grow st ls[k] t) ≤ left M N st ∧ (has st.ss ls[k] t = false → st.q.length < N * (M + 1)) := by
  obtain ⟨h1, h2, h3⟩ := h.ok.grow (Nat.le_refl M) hl ht.1 (by omega)
  refine ⟨⟨h1.ok, fun a v q => ?_, fun a v q => h1.mono _ _ (h.base a v q), fun a b e v q => ?_⟩, h1.less, h3⟩
  · rcases h1.back a v q with q | ⟨rfl, rfl⟩
    · exact h.sound a v q
    · exact hb
  · rcases h1.told a v q with q | q
    · rcases h.prog a b e v q with p | p | ⟨rfl, p⟩
      · exact .inl (h1.mono _ _ p)
      · exact .inr (.inl (h1.keep _ p))
      · rw [List.drop_eq_getElem_cons hk] at p
        rcases List.mem_cons.1 p with rfl | p
        · exact .inl h2
        · exact .inr (.inr ⟨rfl, p⟩)
    · exact .inr (.inl q)
theorem Inv.rest {base edge : Int → Int → Prop} {M N : Nat} {st : St} {t : Int} {ls : List Int} (h : Inv base edge M N (fun _ u l => u = t ∧ l ∈ ls.drop ls.length) st) : Inv base edge M N (fun _ _ _ => False) st :=
  h.weak fun x u l ⟨_, q⟩ => by simp at q
theorem Inv.done {base edge : Int → Int → Prop} {M N : Nat} {ss : List (List Bool)} (h : Inv base edge M N (fun _ _ _ => False) ⟨ss, []⟩) : ss = tab (Reach base edge) N (M + 1) :=
  tab_is h.ok.shape fun s t => ⟨h.sound s t, fun q => Reach.all h.base (fun a b v e p => by
    rcases h.prog a b e v p with p | p | p
    · exact p
    · simp at p
    · exact p.elim) q⟩

/-- begun: the first i links have been told -/
structure Bg (lk : List (Int × Int)) (M N : Nat) (i : Nat) (st : St) (hs : List (List Int)) : Prop where
  ok : Ok M M N st
  all : ∀ a v, has st.ss a v = true → (a, v) ∈ st.q
  is : ∀ a v, has st.ss a v = true ↔ (a, v) ∈ lk.take i
  hlen : hs.length = N
  hmem : ∀ a b : Int, 0 ≤ a → (b ∈ hs.getD a.toNat [] ↔ (b, a) ∈ lk.take i)
  small : ∀ a : Nat, (hs.getD a []).length ≤ i
/-- the heirs, with a link more -/
def heirs (st : St) (p : Int × Int) (hs : List (List Int)) : List (List Int) := if has st.ss p.1 p.2 = true then hs else push hs p.2 p.1
theorem Bg.start (lk : List (Int × Int)) (M N : Nat) : Bg lk M N 0 ⟨List.replicate N (List.replicate (M + 1) false), []⟩ (List.replicate N []) := by
  have hd : ∀ a : Nat, (List.replicate N ([] : List Int)).getD a [] = [] := fun a => by
    rw [List.getD_eq_getElem?_getD, List.getElem?_replicate]; split <;> rfl
  exact ⟨.start M M N, fun a v h => (by simp only at h; rw [Fi.none_has] at h; cases h), fun a v => (by simp only; rw [Fi.none_has]; simp), by simp, fun a b _ => (by rw [hd]; simp), fun a => by rw [hd]; simp⟩
theorem Bg.step {lk : List (Int × Int)} {M N i : Nat} {st : St} {hs : List (List Int)} (hM : M + 1 = N) (h : Bg lk M N i st hs) (hi : i < lk.length) (hl : (0 ≤ lk[i].1 ∧ lk[i].1 < N) ∧ 0 ≤ lk[i].2 ∧ lk[i].2 < N) :
    Bg lk M N (i + 1) (grow st lk[i].1 lk[i].2) (heirs st lk[i] hs) ∧ (has st.ss lk[i].1 lk[i].2 = false → st.q.length < N * (M + 1)) := by
  obtain ⟨h1, h2, h3⟩ := h.ok.grow (Nat.le_refl M) hl.1 hl.2.1 (show lk[i].2 < (M : Int) ∨ lk[i].2 = (M : Int) by omega)
  have ht : ∀ p, p ∈ lk.take (i + 1) ↔ p ∈ lk.take i ∨ p = lk[i] := fun p => by
    rw [List.take_add_one, List.getElem?_eq_getElem hi, List.mem_append]
    simp only [Option.toList_some, List.mem_singleton]
  have hhm : ∀ a b : Int, 0 ≤ a → (b ∈ (heirs st lk[i] hs).getD a.toNat [] ↔ (b, a) ∈ lk.take (i + 1)) := fun a b ha => by
    rw [ht, ← h.hmem a b ha]
    unfold heirs
    by_cases c : has st.ss lk[i].1 lk[i].2 = true
    · rw [if_pos c]
      refine ⟨.inl, fun q => q.elim id fun e => ?_⟩
      have := (h.is _ _).1 c
      rw [show (lk[i].1, lk[i].2) = lk[i] from rfl, ← e] at this
      exact (h.hmem a b ha).2 this
    · rw [if_neg c]
      constructor
      · intro q
        rcases Fo.push_back q with q | ⟨e1, e2⟩
        · exact .inl q
        · refine .inr ?_
          have e3 : a = lk[i].2 := by omega
          rw [e2, e3]
      · rintro (q | q)
        · exact Fo.push_has q
        · have e2 : a = lk[i].2 := by rw [← q]
          have e1 : b = lk[i].1 := by rw [← q]
          rw [e1, e2]
          exact Fo.push_new (by rw [h.hlen]; omega)
  refine ⟨⟨h1.ok, fun a v q => ?_, fun a v => ?_, ?_, hhm, fun a => ?_⟩, h3⟩
  · rcases h1.told a v q with q | q
    · exact h1.keep _ (h.all a v q)
    · exact q
  · rw [ht, ← h.is]
    constructor
    · intro q
      rcases h1.back a v q with q | ⟨e1, e2⟩
      · exact .inl q
      · exact .inr (by rw [e1, e2])
    · rintro (q | q)
      · exact h1.mono _ _ q
      · have e1 : a = lk[i].1 := by rw [← q]
        have e2 : v = lk[i].2 := by rw [← q]
        rw [e1, e2]; exact h2
  · unfold heirs; split
    · exact h.hlen
    · simp [push, h.hlen]
  · have hs0 := h.small a
    unfold heirs
    split
    · omega
    · by_cases e : a = lk[i].2.toNat
      · subst e
        simp only [push]
        by_cases hl2 : lk[i].2.toNat < hs.length
        · simp [List.getD_eq_getElem?_getD, hl2] at hs0 ⊢; omega
        · simp [List.getD_eq_getElem?_getD, hl2] at hs0 ⊢
      · simp only [push]
        have : (hs.set lk[i].2.toNat (hs.getD lk[i].2.toNat [] ++ [lk[i].1])).getD a [] = hs.getD a [] := by
          simp [List.getD_eq_getElem?_getD, Ne.symm e]
        rw [this]; omega
theorem Bg.done {lk : List (Int × Int)} {M N : Nat} {st : St} {hs : List (List Int)} (h : Bg lk M N lk.length st hs) : Inv (fun a v => (a, v) ∈ lk) (fun a b => (b, a) ∈ lk) M N (fun _ _ _ => False) st ∧ Heirs (fun a b => (b, a) ∈ lk) N hs := by
  have e : lk.take lk.length = lk := List.take_length
  have h1 := h.is
  have h2 := h.hmem
  rw [e] at h1 h2
  exact ⟨⟨h.ok, fun a v q => .base _ _ ((h1 a v).1 q), fun a v q => (h1 a v).2 q, fun a b _ v q => .inr (.inl (h.all a v q))⟩, h.hlen, h2⟩
end Go.Proofs.Ytdocbgfpnaiijaa.Dp
