/-
  Layer 8 (first): Of, Sets.
-/
import Derived.Test.YtdjjconccneaiaaGreatFiOfs
import Derived.Test.YtdjjconccneaiaaGreatRowsLib
namespace Go.Proofs.YtdjjconccneaiaaGreat
open Go.RowKit Go.Conc

/-- of each symbol, of each terminal -/
noncomputable def Fi.tab (g : Gr.Gm) : List (List Bool) := Fi.rows g.rules (Nl.of g) g.terms.length (g.terms.length + g.names.length)
/-- may it be asked? -/
def Fi.okG (g : Gr.Gm) (l : List Int) : Bool := Gr.good g && Fi.syms (g.terms.length + g.names.length) l
/-- with which terminals symbols in a row begin -/
noncomputable def Fi.ofG (g : Gr.Gm) (l : List Int) : List Int := if Fi.okG g l = true then Fi.rise (Fi.ofL (Nl.of g) (Fi.tab g) g.terms.length l) else []
/-- of each symbol -/
noncomputable def Fi.setsG (g : Gr.Gm) : List (List Int) := if Gr.good g = true then (Fi.tab g).map Fi.rise else []

theorem Fi.tab_shape (g : Gr.Gm) : Fi.Shape (g.terms.length + g.names.length) g.terms.length (Fi.tab g) := Fi.rows_shape _ _ _ _

set_option maxRecDepth 100000 in
set_option maxHeartbeats 3200000 in
theorem fof_is (g : Gr.Gm) (A : GA) (l : List Int) (ao : Option Addr) (c : Nat) (k : Int) (w : World) (hm : ∀ x ∈ g.rules, x.2.length ≤ maxLen) (h : GmAt w.heap.size w g A) (hl : IntsAt w.heap.size w ao l) (h4 : l.length ≤ 4000) (hc : l.length ≤ c) (hk : (if Fi.okG g l = true then 0 else 1) = k) :
    Calls Tryz.prog 10 #[.agg (gmCells g A), .slice ao l.length c] w fun e w' => ∃ xo xc, e = .returned (.tuple #[.slice xo (Fi.ofG g l).length xc, .int .i64 k]) ∧ Hid (IntsAt w'.heap.size w' xo (Fi.ofG g l)) ∧ Hid (Below w.heap.size w w') := by
  obtain ⟨ta, tc, na, nc, ra, rac⟩ := A
  have HG : Hid (GmAt w.heap.size w g ⟨ta, tc, na, nc, ra, rac⟩) := h
  have HL : Hid (IntsAt w.heap.size w ao l) := hl
  have HK : Hid _ := hk
  have HGD : Hid (∀ (r : Bool) (W : World), Below w.heap.size w W → Gr.good g = r → Calls Tryz.prog 22 #[.agg (gmCells g ⟨ta, tc, na, nc, ra, rac⟩)] W fun e w' => e = .returned (.bool r) ∧ Below W.heap.size W w') := fun r W hW hr => good_is r g _ W hm (h.next hW) hr
  have hbW : Hid (Below w.heap.size w (w.alloc (Obj.cells #[.slice ta g.terms.length tc, .slice na g.names.length nc, .slice ra g.rules.length rac] 25))) := (Below.refl _ w).alloc (Nat.le_refl _) _
  have B0 : Hid ((w.alloc (Obj.cells #[.slice ta g.terms.length tc, .slice na g.names.length nc, .slice ra g.rules.length rac] 25)).heap[w.heap.size]? = some (.cells #[.slice ta g.terms.length tc, .slice na g.names.length nc, .slice ra g.rules.length rac] 25 (0, 0))) := heap_alloc_new w _
  clear h hl hk
  cases hg : Gr.good g
  · have R : Hid (Fi.ofG g l = []) := by show _ = _; simp [Fi.ofG, Fi.okG, hg]
    have RK : Hid (k = 1) := by show _ = _; rw [← HK.out]; simp [Fi.okG, hg]
    have HC1 : Hid (∀ _ : Unit, _) := fun _ => HGD.out false _ hbW.out hg
    clear HGD HK hm
    simp only [gmCells] at HC1 ⊢
    go_enter Tryz.func10, Tryz.ntmps10
    go_wp2_with (go_at_call 22; refine (HC1.out ()).mono ?_; rintro e w1 ⟨rfl, hb1⟩)
    go_ret2
    refine ⟨none, 0, by rw [R.out, RK.out]; rfl, ?_, hbW.out.trans (hb1.mono hbW.out.size)⟩
    rw [R.out]; exact CellsAt.nil
  · have hsz := (Nl.sizes_of hg).1
    have HC1 : Hid (∀ _ : Unit, _) := fun _ => HGD.out true _ hbW.out hg
    have HAS : Hid (∀ (r : Bool) (W : World), Below w.heap.size w W → Fi.syms (g.terms.length + g.names.length) l = r → Calls Tryz.prog 23 #[.agg (gmCells g ⟨ta, tc, na, nc, ra, rac⟩), .slice ao l.length c] W fun e w' => e = .returned (.bool r) ∧ Below W.heap.size W w') := fun r W hW hr => allSyms_is r g _ _ rfl (by omega) l h4 ao c W (HL.out.later hW).size hr
    clear HGD
    cases hs : Fi.syms (g.terms.length + g.names.length) l
    · have R : Hid (Fi.ofG g l = []) := by show _ = _; simp [Fi.ofG, Fi.okG, hs]
      have RK : Hid (k = 1) := by show _ = _; rw [← HK.out]; simp [Fi.okG, hs]
      have HA1 : Hid (∀ W : World, Below w.heap.size w W → _) := fun W hW => HAS.out false W hW hs
      clear HAS HK hm
      simp only [gmCells] at HC1 HA1 ⊢
      go_enter Tryz.func10, Tryz.ntmps10
      go_wp2_with (go_at_call 22; fail)
      generalize (w.alloc (Obj.cells #[.slice ta g.terms.length tc, .slice na g.names.length nc, .slice ra g.rules.length rac] 25)) = W at *
      refine (HC1.out ()).mono ?_
      rintro e w1 ⟨rfl, hb1⟩
      have HB1 : Hid (Below w.heap.size w w1) := hbW.out.trans (hb1.mono hbW.out.size)
      obtain ⟨g0, g1, g2, _⟩ := cells_three_z ((hb1.block _ (Array.getElem?_eq_some_iff.1 B0.out).1).trans B0.out)
      have hz := Nat.lt_of_lt_of_le (Array.getElem?_eq_some_iff.1 B0.out).1 hb1.size
      clear hb1 B0
      go_wp2_with (go_at_call 23; refine Calls.mono (HA1.out _ HB1.out) ?_; rintro e w2 ⟨rfl, hb2⟩)
      go_ret2
      refine ⟨none, 0, by rw [R.out, RK.out]; rfl, ?_, HB1.out.trans (hb2.mono HB1.out.size)⟩
      rw [R.out]; exact CellsAt.nil
    · have R : Hid (Fi.ofG g l = Fi.rise (Fi.ofL (Nl.of g) (Fi.tab g) g.terms.length l)) := by show _ = _; simp [Fi.ofG, Fi.okG, hg, hs]
      have RK : Hid (k = 0) := by show _ = _; rw [← HK.out]; simp [Fi.okG, hg, hs]
      have HA1 : Hid (∀ W : World, Below w.heap.size w W → _) := fun W hW => HAS.out true W hW hs
      have HIN : Hid _ := Fi.syms_iff.1 hs
      have HSE : Hid (∀ W : World, Below w.heap.size w W → _) := fun W hW => settled_any g ⟨ta, tc, na, nc, ra, rac⟩ _ W rfl hg hm (HG.out.next hW)
      have hnl : (Nl.of g).length = g.terms.length + g.names.length := Nl.of_len hg
      have HOR : Hid (∀ (no : Option Addr) (nnc L S C : Nat) (Bs : List Nat) (W : World), Below w.heap.size w W → BoolsAt W.heap.size W no (Nl.of g) → RowsAt S g.terms.length Bs (Fi.tab g) W → Calls Tryz.prog 25 #[.agg (fCells no nnc L S C (g.terms.length + g.names.length)), .slice ao l.length c] W fun e w' => ∃ ao c, e = .returned (.slice ao (Fi.rise (Fi.ofL (Nl.of g) (Fi.tab g) g.terms.length l)).length c) ∧ Hid (IntsAt w'.heap.size w' ao (Fi.rise (Fi.ofL (Nl.of g) (Fi.tab g) g.terms.length l))) ∧ Hid (Below W.heap.size W w')) :=
        fun no nnc L S C Bs W hW hn hR => ofRow_any (Nl.of g) (Fi.tab g) _ _ L S C nnc no ao Bs l c W hn hnl hR (Fi.tab_shape g).len (HL.out.later hW).size HIN.out hc h4 (by omega) (by omega)
      clear HAS HK hm
      simp only [gmCells] at HC1 HA1 HSE ⊢
      go_enter Tryz.func10, Tryz.ntmps10
      go_wp2_with (go_at_call 22; fail)
      generalize (w.alloc (Obj.cells #[.slice ta g.terms.length tc, .slice na g.names.length nc, .slice ra g.rules.length rac] 25)) = W at *
      refine (HC1.out ()).mono ?_
      rintro e w1 ⟨rfl, hb1⟩
      have HB1 : Hid (Below w.heap.size w w1) := hbW.out.trans (hb1.mono hbW.out.size)
      have B1 : Hid _ := (hb1.block _ (Array.getElem?_eq_some_iff.1 B0.out).1).trans B0.out
      obtain ⟨g0, g1, g2, _⟩ := cells_three_z B1.out
      have hz := (Array.getElem?_eq_some_iff.1 B1.out).1
      clear hb1 B0 HC1
      go_wp2_with (go_at_call 23; fail)
      refine Calls.mono (HA1.out _ HB1.out) ?_
      rintro e w2 ⟨rfl, hb2⟩
      have HB2 : Hid (Below w.heap.size w w2) := HB1.out.trans (hb2.mono HB1.out.size)
      have B2 : Hid _ := (hb2.block _ hz).trans B1.out
      clear hb2 B1 HA1 g0 g1 g2 hz
      obtain ⟨g0, g1, g2, _⟩ := cells_three_z B2.out
      have hz := (Array.getElem?_eq_some_iff.1 B2.out).1
      go_wp2_with (go_at_call 24; fail)
      refine Calls.mono (HSE.out _ HB2.out) ?_
      rintro e w3 ⟨no, nnc, L, S, C, rfl, Bs, hE⟩
      have HB3 : Hid (Below w.heap.size w w3) := HB2.out.trans (hE.out.below.mono HB2.out.size)
      have HO1 : Hid _ := HOR.out no nnc L S C Bs w3 HB3.out hE.out.nul hE.out.rs
      clear hE HOR HSE g0 g1 g2 hz B2
      go_wp2_with (go_at_call 25; refine Calls.mono HO1.out ?_; rintro e w4 ⟨xo, xc, rfl, hx, hb4⟩)
      go_ret2
      refine ⟨xo, xc, by rw [R.out, RK.out]; rfl, ?_, HB3.out.trans (hb4.out.mono HB3.out.size)⟩
      rw [R.out]; exact hx

theorem Fi.map_step (f : List Bool → List Int) (l : List (List Bool)) (k : Nat) (h : k < l.length) : (l.take (k + 1)).map f = (l.take k).map f ++ [f (l.getD k [])] := by
  rw [List.take_add_one, List.getElem?_eq_getElem h, List.map_append]
  simp [List.getD_eq_getElem?_getD, h]

set_option maxRecDepth 100000 in
set_option maxHeartbeats 3200000 in
theorem fsets_is (g : Gr.Gm) (A : GA) (w : World) (hm : ∀ x ∈ g.rules, x.2.length ≤ maxLen) (h : GmAt w.heap.size w g A) :
    Calls Tryz.prog 13 #[.agg (gmCells g A)] w fun e w' => ∃ xo xc, e = .returned (.slice xo (Fi.setsG g).length xc) ∧ Hid (LisAt w'.heap.size w' xo (Fi.setsG g)) ∧ Hid (Below w.heap.size w w') := by
  obtain ⟨ta, tc, na, nc, ra, rac⟩ := A
  have HG : Hid (GmAt w.heap.size w g ⟨ta, tc, na, nc, ra, rac⟩) := h
  have HGD : Hid (∀ (r : Bool) (W : World), Below w.heap.size w W → Gr.good g = r → Calls Tryz.prog 22 #[.agg (gmCells g ⟨ta, tc, na, nc, ra, rac⟩)] W fun e w' => e = .returned (.bool r) ∧ Below W.heap.size W w') := fun r W hW hr => good_is r g _ W hm (h.next hW) hr
  have hbW : Hid (Below w.heap.size w (w.alloc (Obj.cells #[.slice ta g.terms.length tc, .slice na g.names.length nc, .slice ra g.rules.length rac] 25))) := (Below.refl _ w).alloc (Nat.le_refl _) _
  have B0 : Hid ((w.alloc (Obj.cells #[.slice ta g.terms.length tc, .slice na g.names.length nc, .slice ra g.rules.length rac] 25)).heap[w.heap.size]? = some (.cells #[.slice ta g.terms.length tc, .slice na g.names.length nc, .slice ra g.rules.length rac] 25 (0, 0))) := heap_alloc_new w _
  clear h
  cases hg : Gr.good g
  · have R : Hid (Fi.setsG g = []) := by show _ = _; simp [Fi.setsG, hg]
    have HC1 : Hid (∀ _ : Unit, _) := fun _ => HGD.out false _ hbW.out hg
    clear HGD hm
    simp only [gmCells] at HC1 ⊢
    go_enter Tryz.func13, Tryz.ntmps13
    go_wp2_with (go_at_call 22; refine (HC1.out ()).mono ?_; rintro e w1 ⟨rfl, hb1⟩)
    go_ret
    refine ⟨none, 0, by rw [R.out]; rfl, ?_, hbW.out.trans (hb1.mono hbW.out.size)⟩
    rw [R.out]; exact LisAt.nil
  · have hsz := (Nl.sizes_of hg).1
    have HC1 : Hid (∀ _ : Unit, _) := fun _ => HGD.out true _ hbW.out hg
    have R : Hid (Fi.setsG g = (Fi.tab g).map Fi.rise) := by show _ = _; simp [Fi.setsG, hg]
    have HSE : Hid (∀ W : World, Below w.heap.size w W → _) := fun W hW => settled_any g ⟨ta, tc, na, nc, ra, rac⟩ _ W rfl hg hm (HG.out.next hW)
    have hfd : ∀ (x y z u : Value) (w : World), (Instr.field 57 (.agg #[x, y, z, u]) 2).run Tryz.prog w = .ok z w := fun _ _ _ _ _ => by kernel_rfl
    clear HGD hm
    simp only [gmCells] at HC1 HSE ⊢
    go_enter Tryz.func13, Tryz.ntmps13
    go_wp2_with (go_at_call 22; fail)
    generalize (w.alloc (Obj.cells #[.slice ta g.terms.length tc, .slice na g.names.length nc, .slice ra g.rules.length rac] 25)) = W at *
    refine (HC1.out ()).mono ?_
    rintro e w1 ⟨rfl, hb1⟩
    have HB1 : Hid (Below w.heap.size w w1) := hbW.out.trans (hb1.mono hbW.out.size)
    have B1 : Hid _ := (hb1.block _ (Array.getElem?_eq_some_iff.1 B0.out).1).trans B0.out
    obtain ⟨g0, g1, g2, _⟩ := cells_three_z B1.out
    have hz := (Array.getElem?_eq_some_iff.1 B1.out).1
    clear hb1 B0 HC1
    go_wp2_with (go_at_call 24; fail)
    refine Calls.mono (HSE.out _ HB1.out) ?_
    rintro e w3 ⟨no, nnc, L, S, C, rfl, Bs, hE⟩
    have HB3 : Hid (Below w.heap.size w w3) := HB1.out.trans (hE.out.below.mono HB1.out.size)
    have HR : Hid (RowsAt S g.terms.length Bs (Fi.tab g) w3) := hE.out.rs
    clear hE HSE g0 g1 g2 hz B1
    have hBl : Bs.length = g.terms.length + g.names.length := by rw [HR.out.len, (Fi.tab_shape g).len]
    have htl : (Fi.tab g).length = g.terms.length + g.names.length := (Fi.tab_shape g).len
    have HRS : Hid (∀ (k : Nat) (hk : k < Bs.length) (W : World), Below w3.heap.size w3 W → Calls Tryz.prog 29 #[.slice (some ⟨Bs[k], 0, none⟩) g.terms.length g.terms.length] W fun e w' => ∃ v, e = .returned v ∧ Hid (OwnInts W.heap.size w' v (Fi.rise ((Fi.tab g).getD k []))) ∧ Hid (Below W.heap.size W w')) := fun k hk W hW => by
      have hkl : k < (Fi.tab g).length := by omega
      have hlk : ((Fi.tab g).getD k []).length = g.terms.length := by
        have : (Fi.tab g).getD k [] = (Fi.tab g)[k] := by simp [List.getD_eq_getElem?_getD, hkl]
        rw [this]; exact HR.out.each _ (List.getElem_mem hkl)
      have := rising_any ((Fi.tab g).getD k []) (some ⟨Bs[k], 0, none⟩) g.terms.length W ((HR.out.later hW).bools k hk) (by omega)
      rw [hlk] at this; exact this
    simp only [fCells]
    generalize hts : Fi.tab g = ts at *
    generalize hnn : g.terms.length + g.names.length = n at *
    go_wp2_with fail
    go_loopw [3, 13] (fun l i wr => ∃ (k : Nat) (xo : Option Addr) (xc : Nat), k ≤ n ∧ i = .int .i64 k ∧ l = .slice xo k xc ∧ Hid (OwnRows w3.heap.size wr (.slice xo k xc) ((ts.take k).map Fi.rise)) ∧ Hid (Below w3.heap.size w3 wr)) (fun _ i _ => n - (intOf i).toNat)
    case atStart => exact ⟨0, none, 0, Nat.zero_le _, rfl, rfl, OwnRows.nil _ _, Below.refl _ _⟩
    case round =>
      obtain ⟨k, xo, xc, hk, rfl, rfl, hO, hbk⟩ := hrel
      by_cases hkl : k < n
      · have hki : (k : Int) < (n : Int) := by omega
        have hkB : k < Bs.length := by omega
        have HR1 : Hid _ := HRS.out k hkB wr hbk.out
        have cS := (HR.out.later hbk.out).head k hkB
        have hSl := (HR.out.later hbk.out).lt.1
        have ST : Hid _ := Fi.map_step Fi.rise ts k (by omega)
        have HLN : Hid (((ts.take k).map Fi.rise).length = k) := by
          show _ = _; rw [List.length_map, List.length_take]; omega
        generalize (ts.take k).map Fi.rise = xs at *
        generalize Fi.rise (ts.getD k []) = rs at *
        generalize Bs[k] = B at *
        go_wp2_with (go_at_call 29; fail)
        refine Calls.mono HR1.out ?_
        rintro e w6 ⟨v, rfl, hov, hb6⟩
        obtain ⟨vo, vc, rfl, _⟩ := OwnInts.read hov.out
        have hb7 : Hid (Below w6.heap.size w6 (w6.alloc (Obj.cells #[.slice vo rs.length vc] 26))) := (Below.refl _ w6).alloc (Nat.le_refl _) _
        have HO7 : Hid (OwnRows w3.heap.size (w6.alloc (Obj.cells #[.slice vo rs.length vc] 26)) (.slice xo k xc) xs) := (hO.out.below hb6.out).below hb7.out
        have HU7 : Hid (OwnInts w3.heap.size (w6.alloc (Obj.cells #[.slice vo rs.length vc] 26)) (.slice vo rs.length vc) rs) := ownsRow_below (ownsRow_from hov.out hbk.out.size) hb7.out
        have HB7 : Hid (Below w3.heap.size w3 (w6.alloc (Obj.cells #[.slice vo rs.length vc] 26))) := (hbk.out.trans (hb6.out.mono hbk.out.size)).alloc (hbk.out.trans (hb6.out.mono hbk.out.size)).size _
        have hbase := HB7.out.size
        clear hov hO hb6 hb7 HR1 cS
        go_wp2_with (at_builtin; refine wpList_append_row rfl _ _ rfl w3.heap.size _ xs rfl HO7.out w6.heap.size 1 _ rs HU7.out rfl (by simp [go_sem]) (by rw [HLN.out]; omega) hbase ?_; intro ga cap w8 ho8 hg8)
        have HB8 : Hid (Below w3.heap.size w3 w8) := by
          obtain ⟨vs, h1, _⟩ := HO7.out
          exact HB7.out.grown hg8 hbase (fun k hk => (h1.lt k hk).1)
        have HO8 : Hid (OwnRows w3.heap.size w8 (.slice (some ⟨ga, 0, none⟩) (k + 1) cap) ((ts.take (k + 1)).map Fi.rise)) := by
          show OwnRows _ _ _ _
          rw [ST.out]; rw [HLN.out] at ho8; exact ho8
        rw [HLN.out]
        clear ho8 hg8 HO7 HU7 HB7 hbk
        go_roundw
        case rel => exact ⟨k + 1, _, _, by omega, by go_num, rfl, HO8, HB8⟩
        case measure => simp [intOf]; omega
      · obtain rfl : k = n := by omega
        have hki : ¬ (k : Int) < (k : Int) := by omega
        have hfin : ts.take k = ts := List.take_of_length_le (by omega)
        have hlm : (ts.map Fi.rise).length = k := by rw [List.length_map]; omega
        have RD : Hid (LisAt wr.heap.size wr xo (ts.map Fi.rise)) := by
          have h0 := hO.out
          rw [hfin] at h0
          obtain ⟨ao, c, e, h1, _⟩ := OwnRows.read h0
          simp only [Value.slice.injEq] at e
          obtain ⟨rfl, _⟩ := e
          exact h1
        have RL : Hid ((Fi.setsG g).length = k) := by show _ = _; rw [R.out]; exact hlm
        clear hO hlm hfin
        go_wp2_with fail
        go_ret
        refine ⟨xo, ⟨xc, by rw [RL.out]; rfl⟩, ?_, HB3.out.trans (hbk.out.mono HB3.out.size)⟩
        rw [R.out]; exact RD
end Go.Proofs.YtdjjconccneaiaaGreat
