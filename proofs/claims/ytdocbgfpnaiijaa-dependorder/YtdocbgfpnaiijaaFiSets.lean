/-
  Layer 8 (first): Sets.
  What first tells, in plain words: lists that rise, what is told one by one, what a symbol begins with.
-/
import Derived.Test.YtdocbgfpnaiijaaFiSettled
import Derived.Test.YtdocbgfpnaiijaaGrGood6
import Derived.BigQuiet
import Derived.Test.YtdocbgfpnaiijaaRowsLib
namespace Go.Proofs.Ytdocbgfpnaiijaa
open Go.RowKit Go.Conc

/-- are all symbols? -/
def Fi.syms (n : Nat) (l : List Int) : Bool := l.all fun s => decide (0 ≤ s ∧ s < n)
theorem Fi.syms_iff {n : Nat} {l : List Int} : Fi.syms n l = true ↔ ∀ s ∈ l, 0 ≤ s ∧ s < n := by simp [Fi.syms]

theorem Fi.syms_drop (n : Nat) (l : List Int) (q : Nat) (h : q < l.length) : Fi.syms n (l.drop q) = (decide (0 ≤ l[q] ∧ l[q] < n) && Fi.syms n (l.drop (q + 1))) := by
  rw [List.drop_eq_getElem_cons h]; rfl

/-- of each symbol, of each terminal -/
noncomputable def Fi.tab (g : Gr.Gm) : List (List Bool) := Fi.rows g.rules (Nl.of g) g.terms.length (g.terms.length + g.names.length)
/-- may it be asked? -/
def Fi.okG (g : Gr.Gm) (l : List Int) : Bool := Gr.good g && Fi.syms (g.terms.length + g.names.length) l
/-- with which terminals symbols in a row begin -/
noncomputable def Fi.ofG (g : Gr.Gm) (l : List Int) : List Int := if Fi.okG g l = true then Fi.rise (Fi.ofL (Nl.of g) (Fi.tab g) g.terms.length l) else []
/-- of each symbol -/
noncomputable def Fi.setsG (g : Gr.Gm) : List (List Int) := if Gr.good g = true then (Fi.tab g).map Fi.rise else []

theorem Fi.tab_shape (g : Gr.Gm) : Fi.Shape (g.terms.length + g.names.length) g.terms.length (Fi.tab g) := Fi.rows_shape _ _ _ _

theorem Fi.map_step (f : List Bool → List Int) (l : List (List Bool)) (k : Nat) (h : k < l.length) : (l.take (k + 1)).map f = (l.take k).map f ++ [f (l.getD k [])] := by
  rw [List.take_add_one, List.getElem?_eq_getElem h, List.map_append]
  simp [List.getD_eq_getElem?_getD, h]

set_option maxRecDepth 100000 in
set_option maxHeartbeats 3200000 in
theorem fsets_own (g : Gr.Gm) (A : GA) (w : World) (hm : ∀ x ∈ g.rules, x.2.length ≤ maxLen) (h : GmAt w.heap.size w g A) :
    Calls Try.prog 88 #[.agg (gmCells g A)] w fun e w' => ∃ xo xc, e = .returned (.slice xo (Fi.setsG g).length xc) ∧ Hid (OwnRows w.heap.size w' (.slice xo (Fi.setsG g).length xc) (Fi.setsG g)) ∧ Hid (Below w.heap.size w w') := by
  obtain ⟨ta, tc, na, nc, ra, rac⟩ := A
  have HG : Hid (GmAt w.heap.size w g ⟨ta, tc, na, nc, ra, rac⟩) := h
  have HGD : Hid (∀ (r : Bool) (W : World), Below w.heap.size w W → Gr.good g = r → Calls Try.prog 40 #[.agg (gmCells g ⟨ta, tc, na, nc, ra, rac⟩)] W fun e w' => e = .returned (.bool r) ∧ Below W.heap.size W w') := fun r W hW hr => good_is r g _ W hm (h.next hW) hr
  have hbW : Hid (Below w.heap.size w (w.alloc (Obj.cells #[.slice ta g.terms.length tc, .slice na g.names.length nc, .slice ra g.rules.length rac] 25))) := (Below.refl _ w).alloc (Nat.le_refl _) _
  have B0 : Hid ((w.alloc (Obj.cells #[.slice ta g.terms.length tc, .slice na g.names.length nc, .slice ra g.rules.length rac] 25)).heap[w.heap.size]? = some (.cells #[.slice ta g.terms.length tc, .slice na g.names.length nc, .slice ra g.rules.length rac] 25 (0, 0))) := heap_alloc_new w _
  clear h
  cases hg : Gr.good g
  · have R : Hid (Fi.setsG g = []) := by show _ = _; simp [Fi.setsG, hg]
    have HC1 : Hid (∀ _ : Unit, _) := fun _ => HGD.out false _ hbW.out hg
    clear HGD hm
    simp only [gmCells] at HC1 ⊢
    go_enter Try.func88, Try.ntmps88
    go_wp2_with (go_at_call 40; refine (HC1.out ()).mono ?_; rintro e w1 ⟨rfl, hb1⟩)
    go_ret
    refine ⟨none, 0, by rw [R.out]; rfl, ?_, hbW.out.trans (hb1.mono hbW.out.size)⟩
    rw [R.out]; exact OwnRows.nil _ _
  · have hsz := (Nl.sizes_of hg).1
    have HC1 : Hid (∀ _ : Unit, _) := fun _ => HGD.out true _ hbW.out hg
    have R : Hid (Fi.setsG g = (Fi.tab g).map Fi.rise) := by show _ = _; simp [Fi.setsG, hg]
    have HSE : Hid (∀ W : World, Below w.heap.size w W → _) := fun W hW => settled_any g ⟨ta, tc, na, nc, ra, rac⟩ _ W rfl hg hm (HG.out.next hW)
    have hfd : ∀ (x y z u : Value) (w : World), (Instr.field 130 (.agg #[x, y, z, u]) 2).run Try.prog w = .ok z w := fun _ _ _ _ _ => by kernel_rfl
    clear HGD hm
    simp only [gmCells] at HC1 HSE ⊢
    go_enter Try.func88, Try.ntmps88
    go_wp2_with (go_at_call 40; fail)
    generalize (w.alloc (Obj.cells #[.slice ta g.terms.length tc, .slice na g.names.length nc, .slice ra g.rules.length rac] 25)) = W at *
    refine (HC1.out ()).mono ?_
    rintro e w1 ⟨rfl, hb1⟩
    have HB1 : Hid (Below w.heap.size w w1) := hbW.out.trans (hb1.mono hbW.out.size)
    have B1 : Hid _ := (hb1.block _ (Array.getElem?_eq_some_iff.1 B0.out).1).trans B0.out
    obtain ⟨g0, g1, g2, _⟩ := cells_three_z B1.out
    have hz := (Array.getElem?_eq_some_iff.1 B1.out).1
    clear hb1 B0 HC1
    go_wp2_with (go_at_call 105; fail)
    refine Calls.mono (HSE.out _ HB1.out) ?_
    rintro e w3 ⟨no, nnc, L, S, C, rfl, Bs, hE⟩
    have HB3 : Hid (Below w.heap.size w w3) := HB1.out.trans (hE.out.below.mono HB1.out.size)
    have HR : Hid (RowsAt S g.terms.length Bs (Fi.tab g) w3) := hE.out.rs
    clear hE HSE g0 g1 g2 hz B1
    have hBl : Bs.length = g.terms.length + g.names.length := by rw [HR.out.len, (Fi.tab_shape g).len]
    have htl : (Fi.tab g).length = g.terms.length + g.names.length := (Fi.tab_shape g).len
    have HRS : Hid (∀ (k : Nat) (hk : k < Bs.length) (W : World), Below w3.heap.size w3 W → Calls Try.prog 106 #[.slice (some ⟨Bs[k], 0, none⟩) g.terms.length g.terms.length] W fun e w' => ∃ v, e = .returned v ∧ Hid (OwnInts W.heap.size w' v (Fi.rise ((Fi.tab g).getD k []))) ∧ Hid (Below W.heap.size W w')) := fun k hk W hW => by
      have hkl : k < (Fi.tab g).length := by omega
      have hlk : ((Fi.tab g).getD k []).length = g.terms.length := by
        have : (Fi.tab g).getD k [] = (Fi.tab g)[k] := by simp [List.getD_eq_getElem?_getD, hkl]
        rw [this]; exact HR.out.each _ (List.getElem_mem hkl)
      have := rising_any ((Fi.tab g).getD k []) (some ⟨Bs[k], 0, none⟩) g.terms.length W ((HR.out.later hW).bools k hk) (by omega)
      rw [hlk] at this; exact this
    simp only [fCells]
    generalize hts : Fi.tab g = ts at *
    generalize hnn : g.terms.length + g.names.length = n at *
    go_wp2_with fail
    go_loopw [3, 13] (fun l i wr => ∃ (k : Nat) (xo : Option Addr) (xc : Nat), k ≤ n ∧ i = .int .i64 k ∧ l = .slice xo k xc ∧ Hid (OwnRows w3.heap.size wr (.slice xo k xc) ((ts.take k).map Fi.rise)) ∧ Hid (Below w3.heap.size w3 wr)) (fun _ i _ => n - (intOf i).toNat)
    case atStart => exact ⟨0, none, 0, Nat.zero_le _, rfl, rfl, OwnRows.nil _ _, Below.refl _ _⟩
    case round =>
      obtain ⟨k, xo, xc, hk, rfl, rfl, hO, hbk⟩ := hrel
      by_cases hkl : k < n
      · have hki : (k : Int) < (n : Int) := by omega
        have hkB : k < Bs.length := by omega
        have HR1 : Hid _ := HRS.out k hkB wr hbk.out
        have cS := (HR.out.later hbk.out).head k hkB
        have hSl := (HR.out.later hbk.out).lt.1
        have ST : Hid _ := Fi.map_step Fi.rise ts k (by omega)
        have HLN : Hid (((ts.take k).map Fi.rise).length = k) := by
          show _ = _; rw [List.length_map, List.length_take]; omega
        generalize (ts.take k).map Fi.rise = xs at *
        generalize Fi.rise (ts.getD k []) = rs at *
        generalize Bs[k] = B at *
        go_wp2_with (go_at_call 106; fail)
        refine Calls.mono HR1.out ?_
        rintro e w6 ⟨v, rfl, hov, hb6⟩
        obtain ⟨vo, vc, rfl, _⟩ := OwnInts.read hov.out
        have hb7 : Hid (Below w6.heap.size w6 (w6.alloc (Obj.cells #[.slice vo rs.length vc] 29))) := (Below.refl _ w6).alloc (Nat.le_refl _) _
        have HO7 : Hid (OwnRows w3.heap.size (w6.alloc (Obj.cells #[.slice vo rs.length vc] 29)) (.slice xo k xc) xs) := (hO.out.below hb6.out).below hb7.out
        have HU7 : Hid (OwnInts w3.heap.size (w6.alloc (Obj.cells #[.slice vo rs.length vc] 29)) (.slice vo rs.length vc) rs) := ownsRow_below (ownsRow_from hov.out hbk.out.size) hb7.out
        have HB7 : Hid (Below w3.heap.size w3 (w6.alloc (Obj.cells #[.slice vo rs.length vc] 29))) := (hbk.out.trans (hb6.out.mono hbk.out.size)).alloc (hbk.out.trans (hb6.out.mono hbk.out.size)).size _
        have hbase := HB7.out.size
        clear hov hO hb6 hb7 HR1 cS
        go_wp2_with (at_builtin; refine wpList_append_row rfl _ _ rfl w3.heap.size _ xs rfl HO7.out w6.heap.size 1 _ rs HU7.out rfl (by simp [go_sem]) (by rw [HLN.out]; omega) hbase ?_; intro ga cap w8 ho8 hg8)
        have HB8 : Hid (Below w3.heap.size w3 w8) := by
          obtain ⟨vs, h1, _⟩ := HO7.out
          exact HB7.out.grown hg8 hbase (fun k hk => (h1.lt k hk).1)
        have HO8 : Hid (OwnRows w3.heap.size w8 (.slice (some ⟨ga, 0, none⟩) (k + 1) cap) ((ts.take (k + 1)).map Fi.rise)) := by
          show OwnRows _ _ _ _
          rw [ST.out]; rw [HLN.out] at ho8; exact ho8
        rw [HLN.out]
        clear ho8 hg8 HO7 HU7 HB7 hbk
        go_roundw
        case rel => exact ⟨k + 1, _, _, by omega, by go_num, rfl, HO8, HB8⟩
        case measure => simp [intOf]; omega
      · obtain rfl : k = n := by omega
        have hki : ¬ (k : Int) < (k : Int) := by omega
        have hfin : ts.take k = ts := List.take_of_length_le (by omega)
        have hlm : (ts.map Fi.rise).length = k := by rw [List.length_map]; omega
        have RL : Hid ((Fi.setsG g).length = k) := by show _ = _; rw [R.out]; exact hlm
        have RD : Hid (OwnRows w.heap.size wr (.slice xo (Fi.setsG g).length xc) (Fi.setsG g)) := by
          have h0 := hO.out
          rw [hfin] at h0
          show OwnRows _ _ _ _
          rw [RL.out, R.out]
          exact h0.from HB3.out.size
        clear hO hlm hfin
        go_wp2_with fail
        go_ret
        exact ⟨xo, xc, by rw [RL.out]; rfl, RD, HB3.out.trans (hbk.out.mono HB3.out.size)⟩

theorem fsets_is (g : Gr.Gm) (A : GA) (w : World) (hm : ∀ x ∈ g.rules, x.2.length ≤ maxLen) (h : GmAt w.heap.size w g A) :
    Calls Try.prog 88 #[.agg (gmCells g A)] w fun e w' => ∃ xo xc, e = .returned (.slice xo (Fi.setsG g).length xc) ∧ Hid (LisAt w'.heap.size w' xo (Fi.setsG g)) ∧ Hid (Below w.heap.size w w') := by
  refine Calls.mono (fsets_own g A w hm h) ?_
  rintro e w' ⟨xo, xc, rfl, ho, hb⟩
  obtain ⟨ao, c, e, h1, _⟩ := OwnRows.read ho.out
  simp only [Value.slice.injEq] at e
  obtain ⟨rfl, _⟩ := e
  exact ⟨xo, xc, rfl, h1, hb⟩
end Go.Proofs.Ytdocbgfpnaiijaa

namespace Go.Proofs.Ytdocbgfpnaiijaa.Fi
open Go.Proofs.Ytdocbgfpnaiijaa.Gr Go.Proofs.Ytdocbgfpnaiijaa.Nl

theorem riseTo_pre (b : List Bool) (k : Nat) : ∀ d, ∃ r, riseTo b (k + d) = riseTo b k ++ r
  | 0 => ⟨[], by simp⟩
  | d + 1 => by
    obtain ⟨r, e⟩ := riseTo_pre b k d
    refine ⟨r ++ (if b.getD (k + d) false = true then [((k + d : Nat) : Int)] else []), ?_⟩
    rw [show k + (d + 1) = (k + d) + 1 from rfl, riseTo_succ, e, List.append_assoc]
/-- the next that is told -/
theorem rise_at {b : List Bool} {k : Nat} (hk : k < b.length) (h : b.getD k false = true) : ∃ hl : (riseTo b k).length < (rise b).length, (rise b)[(riseTo b k).length] = (k : Int) := by
  obtain ⟨r, e⟩ := riseTo_pre b (k + 1) (b.length - (k + 1))
  rw [show k + 1 + (b.length - (k + 1)) = b.length from by omega] at e
  have e2 : rise b = riseTo b k ++ ((k : Int) :: r) := by
    unfold rise
    rw [e, riseTo_succ, if_pos h, List.append_assoc]; rfl
  have hl : (riseTo b k).length < (rise b).length := by rw [e2, List.length_append, List.length_cons]; omega
  refine ⟨hl, ?_⟩
  simp only [e2]
  rw [List.getElem_append_right (Nat.le_refl _)]
  simp
theorem foldTell_len : ∀ (xs : List Int) (b : List Bool), (xs.foldl tell b).length = b.length
  | [], _ => rfl
  | x :: xs, b => by rw [List.foldl_cons, foldTell_len xs, tell_len]
theorem foldTell_step (b : List Bool) (xs : List Int) (k : Nat) (h : k < xs.length) : (xs.take (k + 1)).foldl tell b = tell ((xs.take k).foldl tell b) xs[k] := by
  rw [List.take_add_one, List.getElem?_eq_getElem h, List.foldl_append]; rfl
theorem foldTell_at {n : Nat} : ∀ {xs : List Int} {b : List Bool}, b.length = n → (∀ x ∈ xs, 0 ≤ x ∧ x < n) → ∀ {s : Int}, isAt (xs.foldl tell b) s = true ↔ (isAt b s = true ∨ s ∈ xs)
  | [], _, _, _, s => by simp
  | x :: xs, b, hb, hx, s => by
    have h0 := hx x (List.mem_cons_self ..)
    rw [List.foldl_cons, foldTell_at (b := tell b x) (by rw [tell_len, hb]) fun y hy => hx y (List.mem_cons_of_mem _ hy)]
    constructor
    · rintro (h | h)
      · rcases tell_back h0.1 h with rfl | h
        · exact .inr (List.mem_cons_self ..)
        · exact .inl h
      · exact .inr (List.mem_cons_of_mem _ h)
    · rintro (h | h)
      · exact .inl ((tell_le _ _).isAt h)
      · rcases List.mem_cons.1 h with rfl | h
        · exact .inl (tell_at h0.1 (by rw [hb]; exact h0.2))
        · exact .inr h
end Go.Proofs.Ytdocbgfpnaiijaa.Fi

namespace Go.Proofs.Ytdocbgfpnaiijaa
open Go.RowKit Go.Conc

/-- numbers stand where their block does -/
theorem IntsAt.keep {N : Nat} {w w' : World} {ao : Option Addr} {xs : List Int} (h : IntsAt N w ao xs) (hs : w.heap.size ≤ w'.heap.size) (hk : ∀ k o y, k < N → w.cell? ⟨k, o, none⟩ = some (.int .i64 y) → w'.heap[k]? = w.heap[k]?) : IntsAt N w' ao xs := by
  intro i hi
  have hi' : i < xs.length := by simpa using hi
  obtain ⟨b, o, e, h1, h2, c⟩ := IntsAt.get h i hi'
  refine ⟨b, o, e, h1, Nat.lt_of_lt_of_le h2 hs, ?_⟩
  rw [List.getElem_map, ← c]
  exact World.cell?_of_block (hk b (o + i) _ h1 c)

theorem Fi.setsG_len {g : Gr.Gm} (hg : Gr.good g = true) : (Fi.setsG g).length = g.terms.length + g.names.length := by
  unfold Fi.setsG; rw [if_pos hg, List.length_map, (Fi.tab_shape g).len]
theorem Fi.setsG_get {g : Gr.Gm} (hg : Gr.good g = true) (s : Nat) (hs : s < g.terms.length + g.names.length) : (Fi.setsG g).getD s [] = Fi.rise ((Fi.tab g).getD s []) := by
  have hl : s < (Fi.tab g).length := by rw [(Fi.tab_shape g).len]; exact hs
  unfold Fi.setsG
  rw [if_pos hg]
  simp [List.getD_eq_getElem?_getD, hl]
/-- what a symbol begins with, told -/
theorem Fi.setsG_mem {g : Gr.Gm} (hg : Gr.good g = true) (s : Nat) (hs : s < g.terms.length + g.names.length) (t : Int) : t ∈ (Fi.setsG g).getD s [] ↔ Fi.Beg g.rules (Nl.of g) g.terms.length (s : Int) t := by
  rw [Fi.setsG_get hg s hs, Fi.mem_rise, ← Fi.rows_has (n := g.terms.length + g.names.length) (show (0 : Int) ≤ (s : Int) by omega) (show (s : Int) < ((g.terms.length + g.names.length : Nat) : Int) by omega)]
  simp [Fi.has, Fi.row, Fi.tab]
theorem Fi.setsG_in {g : Gr.Gm} (hg : Gr.good g = true) (s : Nat) (hs : s < g.terms.length + g.names.length) : ∀ t ∈ (Fi.setsG g).getD s [], 0 ≤ t ∧ t < g.terms.length := fun t ht => ((Fi.setsG_mem hg s hs t).1 ht).term
theorem Fi.le_more {g h : Gr.Gm} (hg : Gr.good g = true) (hh : Gr.good h = true) (ht : h.terms.length = g.terms.length) (hn : h.names.length = g.names.length) (hr : ∀ r ∈ g.rules, r ∈ h.rules) : Nl.Le (Nl.of g) (Nl.of h) := by
  refine ⟨by rw [Nl.of_len hg, Nl.of_len hh, ht, hn], fun i q => ?_⟩
  rw [← Nl.isAt_nat] at q ⊢
  have e1 : Nl.of g = Nl.nulls g.rules (g.terms.length + g.names.length) := by unfold Nl.of; rw [if_pos hg]
  have e2 : Nl.of h = Nl.nulls h.rules (h.terms.length + h.names.length) := by unfold Nl.of; rw [if_pos hh]
  rw [e1, Nl.nulls_at (Nl.fit_of hg)] at q
  rw [e2, Nl.nulls_at (Nl.fit_of hh)]
  exact q.more hr
theorem Fi.setsG_more {g h : Gr.Gm} (hg : Gr.good g = true) (hh : Gr.good h = true) (ht : h.terms.length = g.terms.length) (hn : h.names.length = g.names.length) (hr : ∀ r ∈ g.rules, r ∈ h.rules) (s : Nat) (hs : s < g.terms.length + g.names.length) : ∀ t ∈ (Fi.setsG g).getD s [], t ∈ (Fi.setsG h).getD s [] := fun t q => by
  rw [Fi.setsG_mem hg s hs] at q
  rw [Fi.setsG_mem hh s (by rw [ht, hn]; exact hs), ht]
  exact q.more hr (Fi.le_more hg hh ht hn hr)
theorem Fi.setsG_short (g : Gr.Gm) : ∀ x ∈ Fi.setsG g, x.length ≤ g.terms.length := by
  unfold Fi.setsG
  split
  · intro x hx
    obtain ⟨r, hr, rfl⟩ := List.mem_map.1 hx
    exact Nat.le_trans (Fi.riseTo_len _ _) (by rw [(Fi.tab_shape g).each r hr]; exact Nat.le_refl _)
  · intro x hx; simp at hx
end Go.Proofs.Ytdocbgfpnaiijaa
