/-
  The plain mathematics of layer 9 (follow): what stands behind a nonterminal, by definition; sets that grow along steps; a search that tells gains. Nothing of the program is imported here.
-/
import Derived.Test.YtdocbgfpnaiijaaFiMath
namespace Go.Proofs.Ytdocbgfpnaiijaa.Fo
open Go.Proofs.Ytdocbgfpnaiijaa.Gr (Rl)
open Go.Proofs.Ytdocbgfpnaiijaa.Nl (isAt isAt_lt isAt_get isAt_nat allIn allIn_iff cnt cnt_mono cnt_le Le Fit tell)
open Go.Proofs.Ytdocbgfpnaiijaa.Fi (heads Beg has put row cnt2 Shape St grow push)

/-- what is laid in, and carried along steps -/
inductive Reach (base edge : Int → Int → Prop) : Int → Int → Prop
  | base (x v : Int) (h : base x v) : Reach base edge x v
  | step (a b v : Int) (e : edge a b) (h : Reach base edge a v) : Reach base edge b v
theorem Reach.more {b b' e e' : Int → Int → Prop} (hb : ∀ x v, b x v → b' x v) (he : ∀ x v, e x v → e' x v) {x v : Int} (h : Reach b e x v) : Reach b' e' x v := by
  induction h with
  | base x v h => exact .base x v (hb _ _ h)
  | step a b v q _ ih => exact .step a b v (he _ _ q) ih
theorem Reach.cases' {b e : Int → Int → Prop} {x v : Int} (h : Reach b e x v) : b x v ∨ ∃ a, e a x ∧ Reach b e a v := by
  cases h with
  | base _ _ h => exact .inl h
  | step a _ _ q h => exact .inr ⟨a, q, h⟩
/-- what has all that is laid in, and is closed, has all -/
theorem Reach.all {b e : Int → Int → Prop} {P : Int → Int → Prop} (hb : ∀ x v, b x v → P x v) (he : ∀ x y v, e x y → P x v → P y v) {x v : Int} (h : Reach b e x v) : P x v := by
  induction h with
  | base x v h => exact hb _ _ h
  | step a b v q _ ih => exact he _ _ _ q ih

/-- an occurrence: the left side, the nonterminal (counted from 0 on), what stands behind it -/
def Occ (T : Nat) (rs : List Rl) (l x : Int) (rest : List Int) : Prop := ∃ r ∈ rs, ∃ k, ∃ h : k < r.2.length, (T : Int) ≤ r.2[k] ∧ l = r.1 - T ∧ x = r.2[k] - T ∧ rest = r.2.drop (k + 1)
/-- what the rules show -/
def Base (rs : List Rl) (nl : List Bool) (T n : Nat) (x v : Int) : Prop := (x = 0 ∧ v = n) ∨ ∃ l rest, Occ T rs l x rest ∧ ∃ y ∈ heads nl rest, Beg rs nl T y v
def Edge (rs : List Rl) (nl : List Bool) (T : Nat) (a b : Int) : Prop := ∃ rest, Occ T rs a b rest ∧ allIn nl rest = true
/-- v stands behind the nonterminal x -/
def Fol (rs : List Rl) (nl : List Bool) (T n : Nat) : Int → Int → Prop := Reach (Base rs nl T n) (Edge rs nl T)

theorem Occ.lt {T n N : Nat} {rs : List Rl} (hf : Fit T n rs) (hN : T + N = n) {l x : Int} {rest : List Int} (h : Occ T rs l x rest) : (0 ≤ l ∧ l < N) ∧ (0 ≤ x ∧ x < N) ∧ ∀ s ∈ rest, 0 ≤ s ∧ s < n := by
  obtain ⟨r, hr, k, hk, h1, rfl, rfl, rfl⟩ := h
  have hl := hf.left r hr
  have hx := hf.right r hr _ (List.getElem_mem hk)
  exact ⟨by omega, by omega, fun s hs => hf.right r hr s (List.mem_of_mem_drop hs)⟩
theorem Edge.lt {T n N : Nat} {rs : List Rl} {nl : List Bool} (hf : Fit T n rs) (hN : T + N = n) {a b : Int} (h : Edge rs nl T a b) : (0 ≤ a ∧ a < N) ∧ 0 ≤ b ∧ b < N := by
  obtain ⟨rest, h, _⟩ := h
  exact ⟨(h.lt hf hN).1, (h.lt hf hN).2.1⟩
theorem Fol.lt {T n N : Nat} {rs : List Rl} {nl : List Bool} (hf : Fit T n rs) (hN : T + N = n) (h0 : 0 < N) {x v : Int} (h : Fol rs nl T n x v) : (0 ≤ x ∧ x < N) ∧ 0 ≤ v ∧ (v < T ∨ v = n) := by
  refine Reach.all (P := fun x v => (0 ≤ x ∧ x < N) ∧ 0 ≤ v ∧ (v < T ∨ v = n)) (fun x v q => ?_) (fun x y v e q => ⟨(e.lt hf hN).2, q.2⟩) h
  rcases q with ⟨rfl, rfl⟩ | ⟨l, rest, q, y, _, hb⟩
  · exact ⟨by omega, by omega, .inr rfl⟩
  · exact ⟨(q.lt hf hN).2.1, hb.term.1, .inl hb.term.2⟩
theorem Occ.more {T : Nat} {rs rs' : List Rl} (hs : ∀ r ∈ rs, r ∈ rs') {l x : Int} {rest : List Int} (h : Occ T rs l x rest) : Occ T rs' l x rest := by
  obtain ⟨r, hr, q⟩ := h
  exact ⟨r, hs r hr, q⟩
theorem Fol.more {T n : Nat} {rs rs' : List Rl} {nl nl' : List Bool} (hs : ∀ r ∈ rs, r ∈ rs') (hle : Le nl nl') {x v : Int} (h : Fol rs nl T n x v) : Fol rs' nl' T n x v := by
  refine Reach.more (fun x v q => ?_) (fun a b ⟨rest, q, e⟩ => ⟨rest, q.more hs, hle.allIn e⟩) h
  rcases q with q | ⟨l, rest, q, y, hy, hb⟩
  · exact .inl q
  · exact .inr ⟨l, rest, q.more hs, y, Fi.heads_more hle hy, hb.more hs hle⟩

/-! ### tables of what holds -/
open Classical in
noncomputable def tab (R : Int → Int → Prop) (N M : Nat) : List (List Bool) := (List.range N).map fun (s : Nat) => (List.range M).map fun (t : Nat) => decide (R (s : Int) (t : Int))
theorem tab_shape (R : Int → Int → Prop) (N M : Nat) : Shape N M (tab R N M) := by
  refine ⟨by simp [tab], fun r hr => ?_⟩
  simp only [tab, List.mem_map, List.mem_range] at hr
  obtain ⟨_, _, rfl⟩ := hr
  simp
open Classical in
theorem tab_has {R : Int → Int → Prop} {N M : Nat} {s t : Int} : has (tab R N M) s t = true ↔ (0 ≤ s ∧ s < N) ∧ (0 ≤ t ∧ t < M) ∧ R s t := by
  have key : ∀ (h0 : 0 ≤ s) (h1 : s < N), row (tab R N M) s = (List.range M).map fun (t : Nat) => decide (R s (t : Int)) := fun h0 h1 => by
    obtain ⟨hk, e, hl⟩ := (tab_shape R N M).row h0 h1
    rw [e]
    simp only [tab, List.getElem_map, List.getElem_range]
    rw [show ((s.toNat : Nat) : Int) = s from by omega]
  constructor
  · intro h
    have h2 := (tab_shape R N M).lt h
    simp only [has, Bool.and_eq_true, decide_eq_true_eq] at h
    refine ⟨h2.1, h2.2, ?_⟩
    have h3 := h.2
    rw [key h2.1.1 h2.1.2, isAt_get h2.2.1 (by simp; omega)] at h3
    simp only [List.getElem_map, List.getElem_range, decide_eq_true_eq] at h3
    rwa [show ((t.toNat : Nat) : Int) = t from by omega] at h3
  · rintro ⟨h1, h2, h3⟩
    simp only [has, Bool.and_eq_true, decide_eq_true_eq]
    refine ⟨h1.1, ?_⟩
    rw [key h1.1 h1.2, isAt_get h2.1 (by simp; omega)]
    simp only [List.getElem_map, List.getElem_range, decide_eq_true_eq]
    rwa [show ((t.toNat : Nat) : Int) = t from by omega]
theorem tab_is {R : Int → Int → Prop} {N M : Nat} {ss : List (List Bool)} (hs : Shape N M ss) (h : ∀ s t, has ss s t = true ↔ R s t) : ss = tab R N M :=
  Fi.shape_ext hs (tab_shape R N M) fun s t => ⟨fun q => tab_has.2 ⟨(hs.lt q).1, (hs.lt q).2, (h s t).1 q⟩, fun q => (h s t).2 (tab_has.1 q).2.2⟩

/-! ### how much may be told -/
theorem cnt_app : ∀ a b : List Bool, cnt (a ++ b) = cnt a + cnt b
  | [], b => by simp [cnt]
  | x :: a, b => by have := cnt_app a b; simp only [List.cons_append, cnt, this]; omega
theorem cnt_rep (k : Nat) (b : Bool) : cnt (List.replicate k b) = if b = true then k else 0 := by
  induction k with
  | zero => cases b <;> rfl
  | succ k ih =>
    rw [List.replicate_succ]
    simp only [cnt, ih]
    cases b <;> simp
    omega
theorem cnt_lim {T n : Nat} (hT : T ≤ n) {b : List Bool} (hl : b.length = n + 1) (h : ∀ t : Int, isAt b t = true → t < T ∨ t = n) : cnt b ≤ T + 1 := by
  have hle : Le b (List.replicate T true ++ (List.replicate (n - T) false ++ [true])) := by
    refine ⟨by simp; omega, fun i q => ?_⟩
    have q' : isAt b (i : Int) = true := by rw [isAt_nat]; exact q
    have h1 := (isAt_lt q').2
    rcases h _ q' with e | e
    · have hi : i < T := by omega
      rw [List.getD_eq_getElem?_getD, List.getElem?_append_left (by simpa using hi)]
      simp [hi]
    · obtain rfl : i = n := by omega
      rw [List.getD_eq_getElem?_getD, List.getElem?_append_right (by simpa using hT), List.getElem?_append_right (by simp)]
      simp
  have := cnt_mono hle
  rw [cnt_app, cnt_app, cnt_rep, cnt_rep] at this
  simp [cnt] at this
  omega
theorem cnt2_lim {T n : Nat} (hT : T ≤ n) : ∀ {ss : List (List Bool)}, (∀ r ∈ ss, r.length = n + 1 ∧ ∀ t : Int, isAt r t = true → t < T ∨ t = n) → cnt2 ss ≤ ss.length * (T + 1)
  | [], _ => by simp [cnt2]
  | r :: ss, h => by
    have h1 := cnt2_lim hT (ss := ss) fun q hq => h q (List.mem_cons_of_mem _ hq)
    have h2 := cnt_lim hT (h r (List.mem_cons_self ..)).1 (h r (List.mem_cons_self ..)).2
    unfold cnt2 at *
    simp only [List.map_cons, List.sum_cons, List.length_cons]
    rw [Nat.add_mul ss.length 1 (T + 1), Nat.one_mul]
    omega

/-! ### the search -/
structure Ok (T n N : Nat) (st : St) : Prop where
  shape : Shape N (n + 1) st.ss
  few : st.q.length ≤ cnt2 st.ss
  q : ∀ p ∈ st.q, has st.ss p.1 p.2 = true
  lim : ∀ a v, has st.ss a v = true → v < T ∨ v = n
def left (T N : Nat) (st : St) : Nat := 2 * (N * (T + 1) - cnt2 st.ss) + st.q.length

theorem lim_cnt {T n N : Nat} (hT : T ≤ n) {ss : List (List Bool)} (hs : Shape N (n + 1) ss) (hl : ∀ a v, has ss a v = true → v < T ∨ v = n) : cnt2 ss ≤ N * (T + 1) := by
  have := cnt2_lim hT (ss := ss) fun r hr => ⟨hs.each r hr, fun t ht => by
    obtain ⟨i, hi, rfl⟩ := List.getElem_of_mem hr
    refine hl (i : Int) t ?_
    simp only [has, Bool.and_eq_true, decide_eq_true_eq]
    refine ⟨by omega, ?_⟩
    have : row ss (i : Int) = ss[i] := by simp [row, List.getD_eq_getElem?_getD, hi]
    rw [this]; exact ht⟩
  rwa [hs.len] at this
theorem Ok.cap {T n N : Nat} (hT : T ≤ n) {st : St} (h : Ok T n N st) : cnt2 st.ss ≤ N * (T + 1) := lim_cnt hT h.shape h.lim
theorem Ok.start (T n N : Nat) : Ok T n N ⟨List.replicate N (List.replicate (n + 1) false), []⟩ :=
  ⟨Fi.none_shape N (n + 1), Nat.zero_le _, fun p hp => by simp at hp, fun a v h => by simp only at h; rw [Fi.none_has] at h; cases h⟩

/-- the search has gone on: G has been told at most -/
structure Adv (T n N : Nat) (G : Int → Int → Prop) (st st' : St) : Prop where
  ok : Ok T n N st'
  mono : ∀ x u, has st.ss x u = true → has st'.ss x u = true
  back : ∀ x u, has st'.ss x u = true → has st.ss x u = true ∨ G x u
  told : ∀ x u, has st'.ss x u = true → has st.ss x u = true ∨ (x, u) ∈ st'.q
  keep : ∀ p ∈ st.q, p ∈ st'.q
  less : left T N st' ≤ left T N st
theorem Adv.refl {T n N : Nat} {G : Int → Int → Prop} {st : St} (h : Ok T n N st) : Adv T n N G st st := ⟨h, fun _ _ q => q, fun _ _ q => .inl q, fun _ _ q => .inl q, fun _ q => q, Nat.le_refl _⟩
theorem Adv.trans {T n N : Nat} {G : Int → Int → Prop} {st st' st'' : St} (h : Adv T n N G st st') (h' : Adv T n N G st' st'') : Adv T n N G st st'' := by
  refine ⟨h'.ok, fun x u q => h'.mono x u (h.mono x u q), fun x u q => ?_, fun x u q => ?_, fun p q => h'.keep p (h.keep p q), Nat.le_trans h'.less h.less⟩
  · rcases h'.back x u q with q | q
    · exact h.back x u q
    · exact .inr q
  · rcases h'.told x u q with q | q
    · rcases h.told x u q with q | q
      · exact .inl q
      · exact .inr (h'.keep _ q)
    · exact .inr q
theorem Adv.weak {T n N : Nat} {G G' : Int → Int → Prop} {st st' : St} (h : Adv T n N G st st') (hw : ∀ x u, G x u → G' x u) : Adv T n N G' st st' :=
  ⟨h.ok, h.mono, fun x u q => (h.back x u q).imp id (hw x u), h.told, h.keep, h.less⟩

theorem Ok.grow {T n N : Nat} (hT : T ≤ n) {st : St} (h : Ok T n N st) {a v : Int} (ha : 0 ≤ a ∧ a < N) (hv : 0 ≤ v) (hv' : v < T ∨ v = n) :
    Adv T n N (fun x u => x = a ∧ u = v) st (grow st a v) ∧ has (grow st a v).ss a v = true ∧ (has st.ss a v = false → st.q.length < N * (T + 1)) := by
  have hvn : v < (n + 1 : Nat) := by omega
  unfold Fi.grow
  by_cases c : has st.ss a v = true
  · rw [if_pos c]
    exact ⟨.refl h, c, fun q => by rw [c] at q; cases q⟩
  · rw [if_neg c]
    have c' : has st.ss a v = false := by simpa using c
    have hc := Fi.cnt2_put h.shape ha.1 ha.2 hv hvn c'
    have hS : Shape N (n + 1) (put st.ss a v) := h.shape.put ha.1 ha.2
    have hlim : ∀ x u, has (put st.ss a v) x u = true → u < T ∨ u = n := fun x u q => by
      rcases Fi.put_back h.shape ha.1 ha.2 hv q with ⟨rfl, rfl⟩ | q
      · exact hv'
      · exact h.lim x u q
    have hcap := lim_cnt hT hS hlim
    have hf := h.few
    have hp := Fi.has_put h.shape ha.1 ha.2 hv hvn
    have hm : ∀ x u, has st.ss x u = true → has (put st.ss a v) x u = true := fun x u q => Fi.put_mono h.shape ha.1 ha.2 q
    refine ⟨⟨⟨hS, ?_, fun p hpq => ?_, hlim⟩, hm, fun x u q => ?_, fun x u q => ?_, fun p q => List.mem_append.2 (.inl q), ?_⟩, hp, fun _ => by omega⟩
    · simp only [List.length_append, List.length_singleton]; omega
    · rcases List.mem_append.1 hpq with q | q
      · exact hm _ _ (h.q p q)
      · simp only [List.mem_singleton] at q; subst q; exact hp
    · rcases Fi.put_back h.shape ha.1 ha.2 hv q with q | q
      · exact .inr q
      · exact .inl q
    · rcases Fi.put_back h.shape ha.1 ha.2 hv q with ⟨rfl, rfl⟩ | q
      · exact .inr (by simp)
      · exact .inl q
    · unfold left
      simp only [List.length_append, List.length_singleton]; omega

/-- several are told, one by one -/
def tells (a : Int) : List Int → St → St
  | [], st => st
  | t :: r, st => tells a r (grow st a t)
/-- what stands behind a nonterminal is looked at -/
def look (nl : List Bool) (fs : List (List Int)) (a : Int) : List Int → St → St
  | [], st => st
  | y :: r, st => if isAt nl y then look nl fs a r (tells a (fs.getD y.toNat []) st) else tells a (fs.getD y.toNat []) st

theorem Ok.tells {T n N : Nat} (hT : T ≤ n) {a : Int} (ha : 0 ≤ a ∧ a < N) : ∀ {ts : List Int} {st : St}, Ok T n N st → (∀ t ∈ ts, 0 ≤ t ∧ t < T) → Adv T n N (fun x u => x = a ∧ u ∈ ts) st (Fo.tells a ts st) ∧ ∀ t ∈ ts, has (Fo.tells a ts st).ss a t = true
  | [], st, h, _ => ⟨.refl h, fun t ht => by simp at ht⟩
  | t :: r, st, h, hb => by
    have h0 := hb t (List.mem_cons_self ..)
    obtain ⟨h1, h2, _⟩ := h.grow hT ha h0.1 (.inl h0.2)
    obtain ⟨h3, h4⟩ := Ok.tells hT ha (ts := r) h1.ok fun u hu => hb u (List.mem_cons_of_mem _ hu)
    refine ⟨(h1.weak fun x u q => ⟨q.1, by rw [q.2]; exact List.mem_cons_self ..⟩).trans (h3.weak fun x u q => ⟨q.1, List.mem_cons_of_mem _ q.2⟩), fun u hu => ?_⟩
    rcases List.mem_cons.1 hu with rfl | hu
    · exact h3.mono _ _ h2
    · exact h4 u hu
theorem Ok.look {T n N : Nat} (hT : T ≤ n) {nl : List Bool} {fs : List (List Int)} {a : Int} (ha : 0 ≤ a ∧ a < N) : ∀ {l : List Int} {st : St}, Ok T n N st → (∀ y ∈ l, ∀ t ∈ fs.getD y.toNat [], 0 ≤ t ∧ t < T) →
    Adv T n N (fun x u => x = a ∧ ∃ y ∈ heads nl l, u ∈ fs.getD y.toNat []) st (Fo.look nl fs a l st) ∧ ∀ y ∈ heads nl l, ∀ t ∈ fs.getD y.toNat [], has (Fo.look nl fs a l st).ss a t = true
  | [], st, h, _ => ⟨.refl h, fun y hy => by simp [heads] at hy⟩
  | y :: r, st, h, hb => by
    obtain ⟨h1, h2⟩ := h.tells hT ha (ts := fs.getD y.toNat []) (hb y (List.mem_cons_self ..))
    unfold Fo.look
    simp only [heads]
    cases e : isAt nl y
    · simp only [Bool.false_eq_true, if_false]
      refine ⟨h1.weak fun x u q => ⟨q.1, y, by simp, q.2⟩, fun z hz t ht => ?_⟩
      simp only [List.mem_cons, List.not_mem_nil, or_false] at hz
      subst hz
      exact h2 t ht
    · simp only [if_true]
      obtain ⟨h3, h4⟩ := Ok.look hT (nl := nl) ha (l := r) h1.ok fun z hz => hb z (List.mem_cons_of_mem _ hz)
      refine ⟨(h1.weak fun x u q => ⟨q.1, y, List.mem_cons_self .., q.2⟩).trans (h3.weak fun x u ⟨q, z, hz, hu⟩ => ⟨q, z, List.mem_cons_of_mem _ hz, hu⟩), fun z hz t ht => ?_⟩
      rcases List.mem_cons.1 hz with rfl | hz
      · exact h3.mono _ _ (h2 t ht)
      · exact h4 z hz t ht

/-- begun: of the first i rules all occurrences, of the i-th one the first k places, have been looked at -/
structure Bg (rs : List Rl) (nl : List Bool) (T n N : Nat) (i k : Nat) (st : St) (hs : List (List Int)) : Prop where
  ok : Ok T n N st
  all : ∀ a v, has st.ss a v = true → (a, v) ∈ st.q
  sound : ∀ a v, has st.ss a v = true → Fol rs nl T n a v
  base : ∀ r (hr : r < rs.length) j (hj : j < rs[r].2.length), (r < i ∨ r = i ∧ j < k) → (T : Int) ≤ rs[r].2[j] → ∀ y ∈ heads nl (rs[r].2.drop (j + 1)), ∀ t, Beg rs nl T y t → has st.ss (rs[r].2[j] - T) t = true
  hlen : hs.length = N
  hsound : ∀ a b : Int, 0 ≤ a → b ∈ hs.getD a.toNat [] → Edge rs nl T a b
  hall : ∀ r (hr : r < rs.length) j (hj : j < rs[r].2.length), (r < i ∨ r = i ∧ j < k) → (T : Int) ≤ rs[r].2[j] → allIn nl (rs[r].2.drop (j + 1)) = true → (rs[r].2[j] - T) ∈ hs.getD (rs[r].1 - T).toNat []
  small : ∀ a : Nat, (hs.getD a []).length ≤ 8 * i + k
theorem Bg.start {rs : List Rl} {nl : List Bool} {T n N : Nat} : Bg rs nl T n N 0 0 ⟨List.replicate N (List.replicate (n + 1) false), []⟩ (List.replicate N []) := by
  have hd : ∀ a : Nat, (List.replicate N ([] : List Int)).getD a [] = [] := fun a => by
    rw [List.getD_eq_getElem?_getD, List.getElem?_replicate]; split <;> rfl
  exact ⟨.start T n N, fun a v h => (by simp only at h; rw [Fi.none_has] at h; cases h), fun a v h => (by simp only at h; rw [Fi.none_has] at h; cases h), fun r hr j hj h => by omega, by simp, fun a b _ h => (by rw [hd] at h; simp at h), fun r hr j hj h => by omega, fun a => by rw [hd]; simp⟩
/-- a terminal -/
theorem Bg.skip {rs : List Rl} {nl : List Bool} {T n N i k : Nat} {st : St} {hs : List (List Int)} (h : Bg rs nl T n N i k st hs) (hi : i < rs.length) (hk : k < rs[i].2.length) (hx : rs[i].2[k] < (T : Int)) : Bg rs nl T n N i (k + 1) st hs := by
  refine ⟨h.ok, h.all, h.sound, fun r hr j hj q hx' => ?_, h.hlen, h.hsound, fun r hr j hj q hx' => ?_, fun a => by have := h.small a; omega⟩
  · by_cases e : r = i ∧ j = k
    · obtain ⟨rfl, rfl⟩ := e; omega
    · exact h.base r hr j hj (by omega) hx'
  · by_cases e : r = i ∧ j = k
    · obtain ⟨rfl, rfl⟩ := e; omega
    · exact h.hall r hr j hj (by omega) hx'
theorem push_has {ls : List (List Int)} {x l : Int} {s : Nat} {y : Int} (h : y ∈ ls.getD s []) : y ∈ (push ls x l).getD s [] := by
  unfold Fi.push
  by_cases e : x.toNat = s
  · subst e
    rcases Nat.lt_or_ge x.toNat ls.length with q | q
    · simp [List.getD_eq_getElem?_getD, q] at h ⊢; exact .inl h
    · simp [List.getD_eq_getElem?_getD, q] at h
  · simpa [List.getD_eq_getElem?_getD, e] using h
theorem push_new {ls : List (List Int)} {x l : Int} (h : x.toNat < ls.length) : l ∈ (push ls x l).getD x.toNat [] := by
  unfold Fi.push
  simp [List.getD_eq_getElem?_getD, h]
theorem push_back {ls : List (List Int)} {x l : Int} {s : Nat} {y : Int} (h : y ∈ (push ls x l).getD s []) : y ∈ ls.getD s [] ∨ (s = x.toNat ∧ y = l) := by
  unfold Fi.push at h
  by_cases e : x.toNat = s
  · subst e
    rcases Nat.lt_or_ge x.toNat ls.length with q | q
    · simp [List.getD_eq_getElem?_getD, q] at h ⊢; exact h
    · simp [List.getD_eq_getElem?_getD, q] at h
  · exact .inl (by simpa [List.getD_eq_getElem?_getD, e] using h)
/-- what is behind the nonterminal at the place k has been looked at -/
def heirs (nl : List Bool) (l x : Int) (rest : List Int) (hs : List (List Int)) : List (List Int) := if allIn nl rest = true then push hs l x else hs
theorem heirs_len (nl : List Bool) (l x : Int) (rest : List Int) (hs : List (List Int)) : (heirs nl l x rest hs).length = hs.length := by
  unfold heirs; split
  · simp [Fi.push]
  · rfl
theorem Bg.step {rs : List Rl} {nl : List Bool} {T n N i k : Nat} {fs : List (List Int)} {st : St} {hs : List (List Int)} (hf : Fit T n rs) (hN : T + N = n) (h : Bg rs nl T n N i k st hs)
    (hfs : ∀ s : Nat, s < n → ∀ t, t ∈ fs.getD s [] ↔ Beg rs nl T (s : Int) t) (hi : i < rs.length) (hk : k < rs[i].2.length) (hx : (T : Int) ≤ rs[i].2[k]) :
    Bg rs nl T n N i (k + 1) (look nl fs (rs[i].2[k] - T) (rs[i].2.drop (k + 1)) st) (heirs nl (rs[i].1 - T) (rs[i].2[k] - T) (rs[i].2.drop (k + 1)) hs) := by
  have hm : rs[i] ∈ rs := List.getElem_mem hi
  have hocc : Occ T rs (rs[i].1 - T) (rs[i].2[k] - T) (rs[i].2.drop (k + 1)) := ⟨rs[i], hm, k, hk, hx, rfl, rfl, rfl⟩
  obtain ⟨hl, hxb, hrb⟩ := hocc.lt hf hN
  have hF : ∀ y ∈ rs[i].2.drop (k + 1), ∀ t, t ∈ fs.getD y.toNat [] ↔ Beg rs nl T y t := fun y hy t => by
    have := hrb y hy
    rw [hfs y.toNat (by omega) t, show ((y.toNat : Nat) : Int) = y from by omega]
  obtain ⟨ha, hb⟩ := h.ok.look (nl := nl) (fs := fs) (by omega) hxb (l := rs[i].2.drop (k + 1)) fun y hy t ht => ((hF y hy t).1 ht).term
  refine ⟨ha.ok, fun a v q => ?_, fun a v q => ?_, fun r hr j hj q hx' y hy t ht => ?_, by rw [heirs_len, h.hlen], fun a b h0 q => ?_, fun r hr j hj q hx' ha' => ?_, fun a => ?_⟩
  · rcases ha.told a v q with q | q
    · exact ha.keep _ (h.all a v q)
    · exact q
  · rcases ha.back a v q with q | ⟨rfl, y, hy, q⟩
    · exact h.sound a v q
    · exact .base _ _ (.inr ⟨_, _, hocc, y, hy, (hF y (Fi.heads_mem hy) v).1 q⟩)
  · by_cases e : r = i ∧ j = k
    · obtain ⟨rfl, rfl⟩ := e
      exact hb y hy t ((hF y (Fi.heads_mem hy) t).2 ht)
    · exact ha.mono _ _ (h.base r hr j hj (by omega) hx' y hy t ht)
  · unfold heirs at q
    split at q
    · rename_i hall
      rcases push_back q with q | ⟨q, rfl⟩
      · exact h.hsound a b h0 q
      · obtain rfl : a = rs[i].1 - T := by omega
        exact ⟨_, hocc, hall⟩
    · exact h.hsound a b h0 q
  · unfold heirs
    by_cases e : r = i ∧ j = k
    · obtain ⟨rfl, rfl⟩ := e
      rw [if_pos ha']
      exact push_new (by rw [h.hlen]; omega)
    · have := h.hall r hr j hj (by omega) hx' ha'
      split
      · exact push_has this
      · exact this
  · have := h.small a
    unfold heirs
    split
    · have := Fi.push_small hs (rs[i].1 - T) (rs[i].2[k] - T) a; omega
    · omega
theorem Bg.rule {rs : List Rl} {nl : List Bool} {T n N i : Nat} {st : St} {hs : List (List Int)} (hi : i < rs.length) (h8 : rs[i].2.length ≤ 8) (h : Bg rs nl T n N i rs[i].2.length st hs) : Bg rs nl T n N (i + 1) 0 st hs := by
  refine ⟨h.ok, h.all, h.sound, fun r hr j hj q hx' => ?_, h.hlen, h.hsound, fun r hr j hj q hx' => ?_, fun a => by have := h.small a; omega⟩
  · by_cases e : r = i
    · subst e; exact h.base r hr j hj (.inr ⟨rfl, hj⟩) hx'
    · exact h.base r hr j hj (by omega) hx'
  · by_cases e : r = i
    · subst e; exact h.hall r hr j hj (.inr ⟨rfl, hj⟩) hx'
    · exact h.hall r hr j hj (by omega) hx'

/-- the search, amid following up: 'todo' are the steps that are still to be made -/
structure Inv (rs : List Rl) (nl : List Bool) (T n N : Nat) (todo : Int → Int → Int → Prop) (st : St) : Prop where
  ok : Ok T n N st
  sound : ∀ a v, has st.ss a v = true → Fol rs nl T n a v
  base : ∀ a v, Base rs nl T n a v → has st.ss a v = true
  prog : ∀ a b, Edge rs nl T a b → ∀ v, has st.ss a v = true → has st.ss b v = true ∨ (a, v) ∈ st.q ∨ todo a v b
/-- the heirs are told -/
def Heirs (rs : List Rl) (nl : List Bool) (T N : Nat) (hs : List (List Int)) : Prop := hs.length = N ∧ ∀ a b : Int, 0 ≤ a → (b ∈ hs.getD a.toNat [] ↔ Edge rs nl T a b)
theorem Bg.done {rs : List Rl} {nl : List Bool} {T n N : Nat} {st : St} {hs : List (List Int)} (hN : T + N = n) (h0 : 0 < N) (h : Bg rs nl T n N rs.length 0 st hs) :
    Inv rs nl T n N (fun _ _ _ => False) (grow st 0 n) ∧ Heirs rs nl T N hs := by
  obtain ⟨h1, h2, _⟩ := h.ok.grow (a := 0) (v := (n : Int)) (by omega) (by omega) (by omega) (.inr rfl)
  refine ⟨⟨h1.ok, fun a v q => ?_, fun a v q => ?_, fun a b e v q => ?_⟩, h.hlen, fun a b ha => ⟨h.hsound a b ha, ?_⟩⟩
  · rcases h1.back a v q with q | ⟨rfl, rfl⟩
    · exact h.sound a v q
    · exact .base _ _ (.inl ⟨rfl, rfl⟩)
  · rcases q with ⟨rfl, rfl⟩ | ⟨l, rest, ⟨r, hr, k, hk, hx, rfl, rfl, rfl⟩, y, hy, hb⟩
    · exact h2
    · obtain ⟨i, hi, rfl⟩ := List.getElem_of_mem hr
      exact h1.mono _ _ (h.base i hi k hk (.inl hi) hx y hy v hb)
  · refine .inr (.inl ?_)
    rcases h1.told a v q with q | q
    · exact h1.keep _ (h.all a v q)
    · exact q
  · rintro ⟨rest, ⟨r, hr, k, hk, hx, rfl, rfl, rfl⟩, hall⟩
    obtain ⟨i, hi, rfl⟩ := List.getElem_of_mem hr
    exact h.hall i hi k hk (.inl hi) hx hall

theorem Inv.weak {rs : List Rl} {nl : List Bool} {T n N : Nat} {todo todo' : Int → Int → Int → Prop} {st : St} (h : Inv rs nl T n N todo st) (hw : ∀ x t l, todo x t l → todo' x t l) : Inv rs nl T n N todo' st :=
  ⟨h.ok, h.sound, h.base, fun a b e v q => (h.prog a b e v q).imp id fun p => p.imp id (hw _ _ _)⟩
/-- a gain is taken: what follows from it is to be done -/
theorem Inv.take {rs : List Rl} {nl : List Bool} {T n N : Nat} {hs : List (List Int)} {ss : List (List Bool)} {a t : Int} {q : List (Int × Int)} (hf : Fit T n rs) (hN : T + N = n) (hh : Heirs rs nl T N hs) (h : Inv rs nl T n N (fun _ _ _ => False) ⟨ss, (a, t) :: q⟩) :
    Inv rs nl T n N (fun _ u l => u = t ∧ l ∈ (hs.getD a.toNat []).drop 0) ⟨ss, q⟩ ∧ left T N ⟨ss, q⟩ < left T N ⟨ss, (a, t) :: q⟩ ∧ (0 ≤ a ∧ a < N) ∧ (0 ≤ t ∧ (t < T ∨ t = n)) ∧ ∀ l ∈ hs.getD a.toNat [], (0 ≤ l ∧ l < N) ∧ Fol rs nl T n l t := by
  have hat := h.ok.q (a, t) (List.mem_cons_self ..)
  have hl := (h.ok.shape.lt hat).1
  have ht := (h.ok.shape.lt hat).2
  refine ⟨⟨⟨h.ok.shape, ?_, fun p hp => h.ok.q p (List.mem_cons_of_mem _ hp), h.ok.lim⟩, h.sound, h.base, fun x b e v hv => ?_⟩, ?_, hl, ⟨ht.1, h.ok.lim _ _ hat⟩, fun l hml => ?_⟩
  · have := h.ok.few; simp only [List.length_cons] at this ⊢; omega
  · rcases h.prog x b e v hv with p | p | p
    · exact .inl p
    · rcases List.mem_cons.1 p with p | p
      · obtain ⟨rfl, rfl⟩ := Prod.mk.inj p
        refine .inr (.inr ⟨rfl, ?_⟩)
        rw [List.drop_zero]
        exact (hh.2 x b hl.1).2 e
      · exact .inr (.inl p)
    · exact p.elim
  · unfold left; simp
  · have e := (hh.2 a l hl.1).1 hml
    exact ⟨(e.lt hf hN).2, .step a l t e (h.sound _ _ hat)⟩
theorem Inv.again {rs : List Rl} {nl : List Bool} {T n N : Nat} {st : St} {t : Int} {ls : List Int} {k : Nat} (hT : T ≤ n) (hk : k < ls.length) (h : Inv rs nl T n N (fun _ u l => u = t ∧ l ∈ ls.drop k) st) (hl : 0 ≤ ls[k] ∧ ls[k] < N) (ht : 0 ≤ t ∧ (t < T ∨ t = n)) (hb : Fol rs nl T n ls[k] t) :
    Inv rs nl T n N (fun _ u l => u = t ∧ l ∈ ls.drop (k + 1)) (grow st ls[k] t) ∧ left T N (grow st ls[k] t) ≤ left T N st ∧ (has st.ss ls[k] t = false → st.q.length < N * (T + 1)) := by
  obtain ⟨h1, h2, h3⟩ := h.ok.grow hT hl ht.1 ht.2
  refine ⟨⟨h1.ok, fun a v q => ?_, fun a v q => h1.mono _ _ (h.base a v q), fun a b e v q => ?_⟩, h1.less, h3⟩
  · rcases h1.back a v q with q | ⟨rfl, rfl⟩
    · exact h.sound a v q
    · exact hb
  · rcases h1.told a v q with q | q
    · rcases h.prog a b e v q with p | p | ⟨rfl, p⟩
      · exact .inl (h1.mono _ _ p)
      · exact .inr (.inl (h1.keep _ p))
      · rw [List.drop_eq_getElem_cons hk] at p
        rcases List.mem_cons.1 p with rfl | p
        · exact .inl h2
        · exact .inr (.inr ⟨rfl, p⟩)
    · exact .inr (.inl q)
theorem Inv.rest {rs : List Rl} {nl : List Bool} {T n N : Nat} {st : St} {t : Int} {ls : List Int} (h : Inv rs nl T n N (fun _ u l => u = t ∧ l ∈ ls.drop ls.length) st) : Inv rs nl T n N (fun _ _ _ => False) st :=
  h.weak fun x u l ⟨_, q⟩ => by simp at q
theorem Inv.done {rs : List Rl} {nl : List Bool} {T n N : Nat} {ss : List (List Bool)} (h : Inv rs nl T n N (fun _ _ _ => False) ⟨ss, []⟩) : ss = tab (Fol rs nl T n) N (n + 1) :=
  tab_is h.ok.shape fun s t => ⟨h.sound s t, fun q => Reach.all h.base (fun a b v e p => by
    rcases h.prog a b e v p with p | p | p
    · exact p
    · simp at p
    · exact p.elim) q⟩
end Go.Proofs.Ytdocbgfpnaiijaa.Fo
