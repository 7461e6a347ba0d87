/-
  Layer 10 (depend): On, Spots.
-/
import Derived.Test.YtdocbgfpnaiijaaDpSettled
namespace Go.Proofs.Ytdocbgfpnaiijaa
open Go.RowKit Go.Conc

/-- of each nonterminal which ones it hangs on -/
noncomputable def Dp.onG (g : Gr.Gm) (wo : List (Int × Int)) : List (List Bool) := if Gr.good g = true then Fo.tab (Dp.On g.terms.length g.rules wo) g.names.length g.names.length else []
theorem Dp.tabL_is {g : Gr.Gm} (hg : Gr.good g = true) (wo : List (Int × Int)) : Dp.tabL ((Dp.but g.terms.length g.rules wo).map (Dp.link g.terms.length g.rules)) g.names.length = Dp.onG g wo := by
  unfold Dp.onG
  rw [if_pos hg]
  have hsh : Fi.Shape g.names.length g.names.length (Dp.tabL ((Dp.but g.terms.length g.rules wo).map (Dp.link g.terms.length g.rules)) g.names.length) := Fo.tab_shape _ _ _
  refine Fo.tab_is hsh fun s t => ?_
  unfold Dp.tabL
  rw [Fo.tab_has]
  have e : ∀ s t, Fo.Reach (fun a v => (a, v) ∈ (Dp.but g.terms.length g.rules wo).map (Dp.link g.terms.length g.rules)) (fun a b => (b, a) ∈ (Dp.but g.terms.length g.rules wo).map (Dp.link g.terms.length g.rules)) s t ↔ Dp.On g.terms.length g.rules wo s t := fun s t =>
    ⟨Fo.Reach.more (fun _ _ q => Dp.mem_links.1 q) (fun _ _ q => Dp.mem_links.1 q), Fo.Reach.more (fun _ _ q => Dp.mem_links.2 q) (fun _ _ q => Dp.mem_links.2 q)⟩
  rw [e]
  refine ⟨fun q => q.2.2, fun q => ?_⟩
  have := Dp.On.lt (Nl.fit_of hg) rfl q
  exact ⟨this.1, this.2, q⟩
theorem Dp.onG_shape {g : Gr.Gm} (hg : Gr.good g = true) (wo : List (Int × Int)) : Fi.Shape g.names.length g.names.length (Dp.onG g wo) := by
  unfold Dp.onG; rw [if_pos hg]; exact Fo.tab_shape _ _ _
theorem Dp.onG_has {g : Gr.Gm} (hg : Gr.good g = true) {wo : List (Int × Int)} {s t : Int} : Fi.has (Dp.onG g wo) s t = true ↔ Dp.On g.terms.length g.rules wo s t := by
  unfold Dp.onG; rw [if_pos hg, Fo.tab_has]
  refine ⟨fun q => q.2.2, fun q => ?_⟩
  have := Dp.On.lt (Nl.fit_of hg) rfl q
  exact ⟨this.1, this.2, q⟩
theorem Dp.but_in {g : Gr.Gm} {wo : List (Int × Int)} : ∀ s ∈ Dp.but g.terms.length g.rules wo, ∃ r, ∃ hr : r < g.rules.length, ∃ k, ∃ hk : k < g.rules[r].2.length, (g.terms.length : Int) ≤ g.rules[r].2[k] ∧ s = ((r : Int), (k : Int)) := fun s hs => by
  obtain ⟨r, hr, k, hk, h1, _, h3⟩ := Dp.mem_but.1 hs
  exact ⟨r, hr, k, hk, h1, h3⟩

/-- rows of answers that lie in memory, whoever's -/
def BLisAt (w : World) (ao : Option Addr) (ts : List (List Bool)) : Prop :=
  ∀ i (_ : i < ts.length), ∃ b o ro rc, ao = some ⟨b, o, none⟩ ∧ b < w.heap.size ∧ w.cell? ⟨b, o + i, none⟩ = some (.slice ro ts[i].length rc) ∧ BoolsAt w.heap.size w ro ts[i]
theorem BLisAt.next {w w' : World} {ao : Option Addr} {ts : List (List Bool)} (h : BLisAt w ao ts) (hb : Below w.heap.size w w') : BLisAt w' ao ts := fun i hi => by
  obtain ⟨b, o, ro, rc, e, h1, h2, h3⟩ := h i hi
  exact ⟨b, o, ro, rc, e, Nat.lt_of_lt_of_le h1 hb.size, (hb.cell h1).trans h2, h3.next hb⟩
theorem BLisAt.nil {w : World} {ao : Option Addr} : BLisAt w ao [] := fun i hi => by simp at hi
theorem RowsAt.blis {S M : Nat} {Bs : List Nat} {ss : List (List Bool)} {w : World} (h : RowsAt S M Bs ss w) : BLisAt w (some ⟨S, 0, none⟩) ss := fun i hi => by
  have hiB : i < Bs.length := by rw [h.len]; exact hi
  have e : ss.getD i [] = ss[i] := by simp [List.getD_eq_getElem?_getD, hi]
  have hr := h.bools i hiB
  rw [e] at hr
  have hl : ss[i].length = M := h.each _ (List.getElem_mem hi)
  refine ⟨S, 0, some ⟨Bs[i], 0, none⟩, M, rfl, h.lt.1, ?_, hr⟩
  rw [hl, Nat.zero_add]
  exact h.head i hiB

set_option maxRecDepth 100000 in
set_option maxHeartbeats 3200000 in
theorem dpon_is (g : Gr.Gm) (A : GA) (wo : List (Int × Int)) (so : Option Addr) (sc : Nat) (w : World) (hm : ∀ x ∈ g.rules, x.2.length ≤ maxLen) (h : GmAt w.heap.size w g A) (hwo : SpotsAt w.heap.size w so wo) (h4 : wo.length ≤ 4000) :
    Calls Try.prog 17 #[.agg (gmCells g A), .slice so wo.length sc] w fun e w' => ∃ xo xc, e = .returned (.slice xo (Dp.onG g wo).length xc) ∧ Hid (BLisAt w' xo (Dp.onG g wo)) ∧ Hid (Below w.heap.size w w') := by
  obtain ⟨ta, tc, na, nc, ra, rc⟩ := A
  have HG : Hid (GmAt w.heap.size w g ⟨ta, tc, na, nc, ra, rc⟩) := h
  have HWO : Hid (SpotsAt w.heap.size w so wo) := hwo
  have HGD : Hid (∀ (r : Bool) (W : World), Below w.heap.size w W → Gr.good g = r → Calls Try.prog 40 #[.agg (gmCells g ⟨ta, tc, na, nc, ra, rc⟩)] W fun e w' => e = .returned (.bool r) ∧ Below W.heap.size W w') := fun r W hW hr => good_is r g _ W hm (h.next hW) hr
  have hB0 : Hid (Below w.heap.size w (w.alloc (Obj.cells #[.slice ta g.terms.length tc, .slice na g.names.length nc, .slice ra g.rules.length rc] 25))) := (Below.refl _ w).alloc (Nat.le_refl _) _
  have b0 : Hid ((w.alloc (Obj.cells #[.slice ta g.terms.length tc, .slice na g.names.length nc, .slice ra g.rules.length rc] 25)).heap[w.heap.size]? = some (.cells #[.slice ta g.terms.length tc, .slice na g.names.length nc, .slice ra g.rules.length rc] 25 (0, 0))) := heap_alloc_new w _
  cases hg : Gr.good g
  · have R : Hid (Dp.onG g wo = []) := by show _ = _; simp [Dp.onG, hg]
    have HC1 : Hid (∀ _ : Unit, _) := fun _ => HGD.out false _ hB0.out hg
    clear HGD hm h hwo
    simp only [gmCells] at HC1 ⊢
    go_enter Try.func17, Try.ntmps17
    go_wp2_with (go_at_call 40; refine (HC1.out ()).mono ?_; rintro e w1 ⟨rfl, hb1⟩)
    go_ret
    refine ⟨none, 0, by rw [R.out]; rfl, ?_, hB0.out.trans (hb1.mono hB0.out.size)⟩
    rw [R.out]; exact BLisAt.nil
  · have hsz := Nl.sizes_of hg
    have HC1 : Hid (∀ _ : Unit, _) := fun _ => HGD.out true _ hB0.out hg
    have hlen : (Dp.onG g wo).length = g.names.length := (Dp.onG_shape hg wo).len
    obtain ⟨l, hl⟩ : ∃ l, Dp.but g.terms.length g.rules wo = l := ⟨_, rfl⟩
    have hspl : Dp.spotsG g wo = l := by simp [Dp.spotsG, hg, hl]
    have hll : l.length ≤ 480 := by rw [← hl]; exact Nat.le_trans (Dp.spotsTo_len hsz.2 _ (Nat.le_refl _)) (by have := hsz.1; omega)
    have hlin : ∀ s ∈ l, ∃ r, ∃ hr : r < g.rules.length, ∃ k, ∃ hk : k < g.rules[r].2.length, (g.terms.length : Int) ≤ g.rules[r].2[k] ∧ s = ((r : Int), (k : Int)) := by rw [← hl]; exact Dp.but_in
    have htl : Dp.tabL (l.map (Dp.link g.terms.length g.rules)) g.names.length = Dp.onG g wo := by rw [← hl]; exact Dp.tabL_is hg wo
    have HSB : Hid (∀ (W : World), Below w.heap.size w W → Calls Try.prog 43 #[.agg (gmCells g ⟨ta, tc, na, nc, ra, rc⟩), .slice so wo.length sc] W fun e w' => ∃ v, e = .returned v ∧ Hid (OwnSpots W.heap.size w' v l) ∧ Hid (Below W.heap.size W w')) := fun W hW => by
      have := spotsBut_any g ⟨ta, tc, na, nc, ra, rc⟩ wo so sc W hm (HG.out.next hW) (HWO.out.next hW) h4
      rw [hspl] at this
      exact this
    have HSE : Hid (∀ (W : World) (xo : Option Addr) (xc : Nat), Below w.heap.size w W → SpotsAt W.heap.size W xo l → Calls Try.prog 42 #[.agg (gmCells g ⟨ta, tc, na, nc, ra, rc⟩), .slice xo l.length xc] W fun e w' => ∃ H S C, e = .returned (.agg (dpC H S C g.names.length)) ∧ ∃ Bs, Hid (DpE (l.map (Dp.link g.terms.length g.rules)) g.names.length S Bs W w')) := fun W xo xc hW hx => dsettled_any g _ l xo xc W hg (HG.out.next hW) hx hll hlin
    clear HGD hm h hwo hl hspl hlin
    simp only [gmCells] at HC1 HSB HSE ⊢
    go_enter Try.func17, Try.ntmps17
    go_wp2_with (go_at_call 40; fail)
    generalize (w.alloc (Obj.cells #[.slice ta g.terms.length tc, .slice na g.names.length nc, .slice ra g.rules.length rc] 25)) = W at *
    refine (HC1.out ()).mono ?_
    rintro e w1 ⟨rfl, hb1⟩
    have HB1 : Hid (Below w.heap.size w w1) := hB0.out.trans (hb1.mono hB0.out.size)
    have b1 : Hid (w1.heap[w.heap.size]? = some (.cells #[.slice ta g.terms.length tc, .slice na g.names.length nc, .slice ra g.rules.length rc] 25 (0, 0))) := (hb1.block _ (Array.getElem?_eq_some_iff.1 b0.out).1).trans b0.out
    clear hb1 b0 hB0 HC1
    have HC : Hid (∀ w2 : World, Lat w1.drew w2 → Below w.heap.size w w2 ∧ w2.cell? ⟨w.heap.size, 0, none⟩ = some (.slice ta g.terms.length tc) ∧ w2.cell? ⟨w.heap.size, 1, none⟩ = some (.slice na g.names.length nc) ∧ w2.cell? ⟨w.heap.size, 2, none⟩ = some (.slice ra g.rules.length rc)) := fun w2 hL => by
      have h := cells_three_z ((hL.of_drew.block _ (Array.getElem?_eq_some_iff.1 b1.out).1).trans b1.out)
      exact ⟨HB1.out.trans (Below.mono hL.of_drew HB1.out.size), h.1, h.2.1, h.2.2.1⟩
    go_upto_region 3 with fail
    refine wp_region_lat [.val (.agg #[.slice ta g.terms.length tc, .slice na g.names.length nc, .slice ra g.rules.length rc]), .val (.agg #[.slice ta g.terms.length tc, .slice na g.names.length nc, .slice ra g.rules.length rc]), .val (.slice so wo.length sc), .fact (fun v w' => ∃ xo xc, v = .slice xo l.length xc ∧ SpotsAt w'.heap.size w' xo l), .fact (fun v w' => ∃ H S C, v = .agg (dpC H S C g.names.length) ∧ ∃ Bs, RowsAt S g.names.length Bs (Dp.onG g wo) w'), .fact (fun v w' => ∃ S, v = .slice (some ⟨S, 0, none⟩) g.names.length g.names.length ∧ ∃ Bs, RowsAt S g.names.length Bs (Dp.onG g wo) w')] [_] (by kernel_rfl) (by kernel_rfl) rfl ?kept ?walk
    case kept => exact ⟨fun v w1 w2 hL ⟨bo, bc, e, h1⟩ => ⟨bo, bc, e, h1.next hL⟩, fun v w1 w2 hL ⟨H, S, C, e, Bs, h1⟩ => ⟨H, S, C, e, Bs, h1.later hL⟩, fun v w1 w2 hL ⟨S, e, Bs, h1⟩ => ⟨S, e, Bs, h1.later hL⟩, trivial⟩
    case walk =>
      refine wpFacts_val (by rfl) (fun w1 hL hd K hK => ?_) ?_
      · obtain ⟨_, c0, c1, c2⟩ := HC.out w1 hL
        go_simp
        exact hK _ (Lat.refl _)
      refine wpFacts_norm (by simp only [Act.put, List.setIfInBounds_toArray, List.set_cons_zero, List.set_cons_succ]; rfl) (by simp only [List.nil_append]; rfl) ?_
      refine wpFacts_val (by rfl) (fun w1 hL hd K hK => ?_) ?_
      · obtain ⟨_, c0, c1, c2⟩ := HC.out w1 hL
        go_simp
        exact hK _ (Lat.refl _)
      refine wpFacts_norm (by simp only [Act.put, List.setIfInBounds_toArray, List.set_cons_zero, List.set_cons_succ]; rfl) (by simp only [List.cons_append, List.nil_append]; rfl) ?_
      refine wpFacts_val (by rfl) (fun w1 hL hd K hK => ?_) ?_
      · go_simp
        exact hK _ (Lat.refl _)
      refine wpFacts_norm (by simp only [Act.put, List.setIfInBounds_toArray, List.set_cons_zero, List.set_cons_succ]; rfl) (by simp only [List.cons_append, List.nil_append]; rfl) ?_
      refine wpFacts_fact (by rfl) (fun w2 hL hd K hK => ?_) (fun v3 => ?_)
      · go_simp
        refine Calls.mono (HSB.out w2 (HC.out w2 hL).1) ?_
        rintro e w9 ⟨v, rfl, hb8, hb9⟩
        obtain ⟨xo, xc, rfl, hx⟩ := OwnSpots.read hb8.out
        exact hK _ _ hb9.out ⟨xo, xc, rfl, hx⟩
      refine wpFacts_norm (by simp only [Act.put, List.setIfInBounds_toArray, List.set_cons_zero, List.set_cons_succ]; rfl) (by simp only [List.cons_append, List.nil_append]; rfl) ?_
      refine wpFacts_fact (by rfl) (fun w2 hL hd K hK => ?_) (fun v4 => ?_)
      · obtain ⟨xo, xc, rfl, hx⟩ : ∃ xo xc, v3 = .slice xo l.length xc ∧ SpotsAt w2.heap.size w2 xo l := hd.2.1
        have HX : Hid _ := HSE.out w2 xo xc (HC.out w2 hL).1 hx
        clear hx
        go_simp
        refine Calls.mono HX.out ?_
        rintro e w9 ⟨H, S, C, rfl, Bs, hE⟩
        exact hK _ _ hE.out.below ⟨H, S, C, rfl, Bs, by have := hE.out.rs; rw [htl] at this; exact this⟩
      refine wpFacts_norm (by simp only [Act.put, List.setIfInBounds_toArray, List.set_cons_zero, List.set_cons_succ]; rfl) (by simp only [List.cons_append, List.nil_append]; rfl) ?_
      refine wpFacts_fact (by rfl) (fun w2 hL hd K hK => ?_) (fun v5 => ?_)
      · obtain ⟨H, S, C, rfl, Bs, hR⟩ : ∃ H S C, v4 = .agg (dpC H S C g.names.length) ∧ ∃ Bs, RowsAt S g.names.length Bs (Dp.onG g wo) w2 := hd.1
        have HR : Hid _ := hR
        clear hR
        simp only [dpC]
        go_simp
        exact hK _ _ (Lat.refl _) ⟨S, rfl, Bs, HR.out⟩
      refine wpFacts_norm (by simp only [Act.put, List.setIfInBounds_toArray, List.set_cons_zero, List.set_cons_succ]; rfl) (by simp only [List.cons_append, List.nil_append]; rfl) ?_
      intro w2 hL ha
      obtain ⟨S, rfl, Bs, hR⟩ : ∃ S, v5 = .slice (some ⟨S, 0, none⟩) g.names.length g.names.length ∧ ∃ Bs, RowsAt S g.names.length Bs (Dp.onG g wo) w2 := allHold_get 5 ha rfl rfl
      have HR : Hid (BLisAt w2 (some ⟨S, 0, none⟩) (Dp.onG g wo)) := hR.blis
      have HB2 : Hid (Below w.heap.size w w2) := (HC.out w2 hL).1
      clear ha hR hL HC
      go_wp2_with fail
      go_ret
      exact ⟨some ⟨S, 0, none⟩, g.names.length, by rw [hlen]; rfl, HR, HB2.out⟩

set_option maxHeartbeats 1600000 in
theorem dpspots_own (g : Gr.Gm) (A : GA) (w : World) (hm : ∀ x ∈ g.rules, x.2.length ≤ maxLen) (h : GmAt w.heap.size w g A) :
    Calls Try.prog 20 #[.agg (gmCells g A)] w fun e w' => ∃ v, e = .returned v ∧ Hid (OwnSpots w.heap.size w' v (Dp.spotsG g [])) ∧ Hid (Below w.heap.size w w') := by
  obtain ⟨ta, tc, na, nc, ra, rc⟩ := A
  have hB0 : Hid (Below w.heap.size w (w.alloc (Obj.cells #[.slice ta g.terms.length tc, .slice na g.names.length nc, .slice ra g.rules.length rc] 25))) := (Below.refl _ w).alloc (Nat.le_refl _) _
  have HSB : Hid (Calls Try.prog 43 #[.agg (gmCells g ⟨ta, tc, na, nc, ra, rc⟩), .slice none 0 0] (w.alloc (Obj.cells #[.slice ta g.terms.length tc, .slice na g.names.length nc, .slice ra g.rules.length rc] 25)) fun e w' => ∃ v, e = .returned v ∧ Hid (OwnSpots (w.alloc (Obj.cells #[.slice ta g.terms.length tc, .slice na g.names.length nc, .slice ra g.rules.length rc] 25)).heap.size w' v (Dp.spotsG g [])) ∧ Hid (Below (w.alloc (Obj.cells #[.slice ta g.terms.length tc, .slice na g.names.length nc, .slice ra g.rules.length rc] 25)).heap.size (w.alloc (Obj.cells #[.slice ta g.terms.length tc, .slice na g.names.length nc, .slice ra g.rules.length rc] 25)) w')) := spotsBut_any g ⟨ta, tc, na, nc, ra, rc⟩ [] none 0 _ hm (h.next hB0.out) SpotsAt.nil (by simp)
  clear hm h
  simp only [gmCells] at HSB ⊢
  go_enter Try.func20, Try.ntmps20
  go_wp2_with (go_at_call 43; fail)
  generalize (w.alloc (Obj.cells #[.slice ta g.terms.length tc, .slice na g.names.length nc, .slice ra g.rules.length rc] 25)) = W at *
  refine Calls.mono HSB.out ?_
  rintro e w9 ⟨v, rfl, h8, h9⟩
  have hO : Hid (OwnSpots w.heap.size w9 v (Dp.spotsG g [])) := ownsRow_from h8.out hB0.out.size
  have hB9 : Hid (Below w.heap.size w w9) := hB0.out.trans (h9.out.mono hB0.out.size)
  obtain ⟨xo, xc, rfl, _⟩ := OwnSpots.read h8.out
  clear h8 h9 hB0 HSB
  go_wp2_with fail
  go_ret
  exact ⟨_, rfl, hO, hB9.out⟩
end Go.Proofs.Ytdocbgfpnaiijaa
