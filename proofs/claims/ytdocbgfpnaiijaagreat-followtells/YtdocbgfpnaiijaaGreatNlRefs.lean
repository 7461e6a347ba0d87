/-
  The document's own answers of layer 6: all, Of; the statements' own comparing of answers.
  The document's own answers of layer 6: Of, All, Rule.
-/
import Derived.Test.YtdocbgfpnaiijaaGreatNlOfs
import Derived.Test.YtdocbgfpnaiijaaGreatSchRef
import Derived.Test.YtdocbgfpnaiijaaGreatGrRefGood
namespace Go.Proofs.YtdocbgfpnaiijaaGreat
open Go.RowKit Go.Conc

set_option maxHeartbeats 1600000 in
theorem refall_is (r : Bool) (bs : List Bool) (xs : List Int) (hx : xs.length ≤ 4000) (io ao : Option Addr) (ic c : Nat) (w : World) (h : BoolsAt w.heap.size w io bs) (hxs : IntsAt w.heap.size w ao xs) (hr : Nl.allIn bs xs = r) :
    Calls Tryz.prog 56 #[.slice ao xs.length c, .slice io bs.length ic] w fun e w' => e = .returned (.bool r) ∧ w' = w := by
  have HC : Hid _ := hxs.get
  have HB : Hid _ := h.get
  have HR : Hid _ := hr
  clear h hxs hr
  go_enter Tryz.func56, Tryz.ntmps56
  go_wp2_with fail
  go_loop [5] (fun i => ∃ q : Nat, q ≤ xs.length ∧ i = .int .i64 q ∧ Hid (Nl.allIn bs (xs.drop q) = r)) (fun i => xs.length - (intOf i).toNat)
  case atStart => exact ⟨0, Nat.zero_le _, rfl, by show _ = _; rw [List.drop_zero]; exact HR.out⟩
  case round =>
    obtain ⟨q, hq, rfl, hE⟩ := hrel
    by_cases hlt : q < xs.length
    · obtain ⟨b, o, rfl, hb1, _, k0⟩ := HC.out q hlt
      have PE := hE.out
      rw [allIn_drop bs xs q hlt] at PE
      generalize xs[q] = x at *
      by_cases h0 : x < 0
      · have R : Hid (r = false) := by
          show _ = _; rw [← PE]
          have : Nl.isAt bs x = false := by simp [Nl.isAt]; omega
          rw [this]; rfl
        have hd : decide (x < 0) = true := decide_eq_true h0
        clear PE hE h0
        go_wp2_with fail
        go_ret
        exact ⟨ret_bool R.out.symm, rfl⟩
      · have hd : decide (x < 0) = false := decide_eq_false h0
        by_cases h1 : x < bs.length
        · obtain ⟨k, rfl⟩ : ∃ k : Nat, x = k := ⟨x.toNat, by omega⟩
          have hk : k < bs.length := by omega
          have hd1 : decide (bs.length ≤ k) = false := by simp; omega
          obtain ⟨b2, o2, rfl, _, _, c1⟩ := HB.out k hk
          have e : Nl.isAt bs (k : Int) = bs[k] := by rw [Nl.isAt_get (by omega) (by simpa using hk)]; simp
          rw [e] at PE
          clear e
          generalize bs[k] = y at *
          cases y
          · have R : Hid (r = false) := by show _ = _; rw [← PE]; rfl
            clear PE hE
            go_wp2_with fail
            go_ret
            exact ⟨ret_bool R.out.symm, rfl⟩
          · have R : Hid (Nl.allIn bs (xs.drop (q + 1)) = r) := by show _ = _; rw [← PE]; rfl
            clear PE hE
            go_wp2_with fail
            go_round
            case rel => exact ⟨q + 1, by omega, by go_num, R⟩
            case measure => simp [intOf]; omega
        · have hd1 : decide ((bs.length : Int) ≤ x) = true := by simp; omega
          have R : Hid (r = false) := by
            show _ = _; rw [← PE]
            cases e : Nl.isAt bs x
            · rfl
            · have := (Nl.isAt_lt e).2; omega
          clear PE hE h0 h1
          go_wp2_with fail
          go_ret
          exact ⟨ret_bool R.out.symm, rfl⟩
    · have R : Hid (r = true) := by show _ = _; rw [← hE.out, List.drop_of_length_le (by omega)]; rfl
      clear hE
      go_wp2_with fail
      go_ret
      exact ⟨ret_bool R.out.symm, rfl⟩

end Go.Proofs.YtdocbgfpnaiijaaGreat

namespace Go.Proofs.YtdocbgfpnaiijaaGreat
open Go.RowKit Go.Conc

set_option maxRecDepth 100000 in
set_option maxHeartbeats 3200000 in
theorem refOf6_is (g : Gr.Gm) (A : GA) (w : World) (hm : ∀ x ∈ g.rules, x.2.length ≤ maxLen) (h : GmAt w.heap.size w g A) :
    Calls Tryz.prog 54 #[.agg (gmCells g A)] w fun e w' => ∃ ao c, e = .returned (.slice ao (Nl.of g).length c) ∧ Hid (BoolsAt w'.heap.size w' ao (Nl.of g)) ∧ Hid (Below w.heap.size w w') := by
  obtain ⟨ta, tc, na, nc, ra, rac⟩ := A
  have HG : Hid (GmAt w.heap.size w g ⟨ta, tc, na, nc, ra, rac⟩) := h
  have HGD : Hid (∀ (r : Bool) (W : World), Below w.heap.size w W → Gr.good g = r → Calls Tryz.prog 6 #[.agg (gmCells g ⟨ta, tc, na, nc, ra, rac⟩)] W fun e w' => e = .returned (.bool r) ∧ Below W.heap.size W w') := fun r W hW hr => refGood_any r g _ W hm (h.next hW) (by rw [Gr.refGood_is]; exact hr)
  have hbW : Hid (Below w.heap.size w (w.alloc (Obj.cells #[.slice ta g.terms.length tc, .slice na g.names.length nc, .slice ra g.rules.length rac] 25))) := (Below.refl _ w).alloc (Nat.le_refl _) _
  have B0 : Hid ((w.alloc (Obj.cells #[.slice ta g.terms.length tc, .slice na g.names.length nc, .slice ra g.rules.length rac] 25)).heap[w.heap.size]? = some (.cells #[.slice ta g.terms.length tc, .slice na g.names.length nc, .slice ra g.rules.length rac] 25 (0, 0))) := heap_alloc_new w _
  clear h hm
  simp only [gmCells] at HGD ⊢
  cases hg : Gr.good g
  · have R : Hid (Nl.of g = []) := Nl.of_no hg
    have HC1 : Hid (∀ _ : Unit, _) := fun _ => HGD.out false _ hbW.out hg
    clear HGD
    go_enter Tryz.func54, Tryz.ntmps54
    go_wp2_with (go_at_call 6; refine Calls.mono (HC1.out ()) ?_; rintro e w1 ⟨rfl, hb1⟩)
    go_ret
    refine ⟨none, 0, by rw [R.out]; rfl, ?_, hbW.out.trans (hb1.mono hbW.out.size)⟩
    rw [R.out]; exact CellsAt.nil
  · have R : Hid (Nl.of g = Nl.nulls g.rules (g.terms.length + g.names.length)) := by show _ = _; simp [Nl.of, hg]
    have HC1 : Hid (∀ _ : Unit, _) := fun _ => HGD.out true _ hbW.out hg
    obtain ⟨hsz, h8⟩ := Nl.sizes_of hg
    have HF : Hid _ := Nl.fit_of hg
    have H8 : Hid _ := h8
    have hmb := make_bools6 g.terms.length g.names.length (by omega)
    clear HGD h8
    go_enter Tryz.func54, Tryz.ntmps54
    go_wp2_with (go_at_call 6; fail)
    generalize (w.alloc (Obj.cells #[.slice ta g.terms.length tc, .slice na g.names.length nc, .slice ra g.rules.length rac] 25)) = W at *
    refine Calls.mono (HC1.out ()) ?_
    rintro e w1 ⟨rfl, hb1⟩
    have B1 : Hid _ := (hb1.block _ (Array.getElem?_eq_some_iff.1 B0.out).1).trans B0.out
    have HB1 : Hid _ := hbW.out.trans (hb1.mono hbW.out.size)
    have hzl := (Array.getElem?_eq_some_iff.1 B1.out).1
    obtain ⟨g0, g1, g2, _⟩ := cells_three_z B1.out
    have HI : Hid (ROInv w (w1.alloc (.cells (Array.replicate (g.terms.length + g.names.length) (Value.bool false)) 4)) w1.heap.size g ⟨ta, tc, na, nc, ra, rac⟩ (List.replicate (g.terms.length + g.names.length) false)) :=
      ⟨HB1.out.alloc HB1.out.size _, hzl, (Below.heap_alloc _ _ _ hzl).trans B1.out, by rw [heap_alloc_new]; simp⟩
    clear hb1 B0 hbW HC1 B1 HB1
    go_upto_region 4 with fail
    generalize (w1.alloc (.cells (Array.replicate (g.terms.length + g.names.length) (Value.bool false)) 4)) = W2 at *
    generalize w1.heap.size = X at *
    clear g0 g1 g2
    go_wp2_with fail
    go_loopw [4, 5] (fun i _ wr => ∃ (k : Nat) (bs : List Bool), k ≤ g.terms.length + g.names.length ∧ i = .int .i64 k ∧ Hid (ROInv w wr X g ⟨ta, tc, na, nc, ra, rac⟩ bs) ∧ Hid (Nl.Rd 0 (g.terms.length + g.names.length) g.rules k bs)) (fun i _ _ => g.terms.length + g.names.length - (intOf i).toNat)
    case atStart => exact ⟨0, _, Nat.zero_le _, rfl, HI, Nl.Rd.start⟩
    case round =>
      obtain ⟨k, bs, hk, rfl, hA, hR⟩ := hrel
      clear HI
      have hln := hR.out.len
      by_cases hkl : k < g.terms.length + g.names.length
      · have hki : (k : Int) < (g.terms.length : Int) + (g.names.length : Int) := by omega
        have P0 : Hid (ROInv w wr X g ⟨ta, tc, na, nc, ra, rac⟩ ((g.rules.take 0).foldl Nl.by1 bs)) := hA
        go_upto_region 8 with fail
        clear hA
        go_loopw [5] (fun i wc => ∃ q : Nat, q ≤ g.rules.length ∧ i = .int .i64 q ∧ Hid (ROInv w wc X g ⟨ta, tc, na, nc, ra, rac⟩ ((g.rules.take q).foldl Nl.by1 bs))) (fun i _ => g.rules.length - (intOf i).toNat)
        case atStart => exact ⟨0, Nat.zero_le _, rfl, P0⟩
        case round =>
          obtain ⟨q, hq, rfl, hA⟩ := hrel
          clear P0
          obtain ⟨g0, g1, g2, _⟩ := cells_three_z hA.out.gb
          simp only at g0 g1 g2
          by_cases hql : q < g.rules.length
          · have hqi : (q : Int) < (g.rules.length : Int) := by omega
            obtain ⟨rb, ro, yo, yc, hra, _, _, y0, y1, yI, _⟩ := HG.out.rules q hql
            simp only at hra
            subst hra
            have hmm : g.rules[q] ∈ g.rules := List.getElem_mem hql
            have h8q := H8.out _ hmm
            have hlf := HF.out.left _ hmm
            have ST : Hid _ := pass_step g.rules bs q hql
            have hpl := pass_len (g.rules.take q) bs
            have HY : Hid (IntsAt w.heap.size w yo g.rules[q].2) := yI
            clear hmm yI
            generalize g.rules[q] = y at *
            obtain ⟨yl, yr⟩ := y
            simp only at y0 y1 HY h8q hlf
            obtain ⟨m, rfl⟩ : ∃ m : Nat, yl = m := ⟨yl.toNat, by omega⟩
            replace y0 := cell_later hA.out.below y0
            replace y1 := cell_later hA.out.below y1
            generalize hcs : (g.rules.take q).foldl Nl.by1 bs = cs at *
            have hml : m < cs.length := by rw [hpl, hln]; omega
            obtain ⟨d0, d1⟩ := hA.out.cell m hml
            have hgl : cs.length = g.terms.length + g.names.length := by rw [hpl, hln]
            have HA : Hid (∀ b : Bool, Nl.allIn cs yr = b → Calls Tryz.prog 56 #[.slice yo yr.length yc, .slice (some ⟨X, 0, none⟩) (g.terms.length + g.names.length) (g.terms.length + g.names.length)] wr fun e w' => e = .returned (.bool b) ∧ w' = wr) := fun b hb => by
              rw [← hgl]
              exact refall_is b cs yr (by omega) _ yo _ yc wr hA.out.bools (HY.out.later hA.out.below).size hb
            cases ha : Nl.allIn cs yr
            · have HA1 : Hid _ := HA.out false ha
              have N1 : Hid (ROInv w wr X g ⟨ta, tc, na, nc, some ⟨rb, ro, none⟩, rac⟩ ((g.rules.take (q + 1)).foldl Nl.by1 bs)) := by
                rw [ST.out]
                have : Nl.by1 cs ((m : Int), yr) = cs := by unfold Nl.by1; rw [if_neg (by simp [ha])]
                rw [this]; exact hA
              clear HA hA ST hcs
              go_wp2_with (go_at_call 56; refine Calls.mono HA1.out ?_; rintro e w3 ⟨rfl, rfl⟩)
              go_roundw
              case rel => exact ⟨q + 1, by omega, by go_num, N1⟩
              case measure => simp [intOf]; omega
            · have HA1 : Hid _ := HA.out true ha
              have N1 : Hid (ROInv w (wr.setCell ⟨X, m, none⟩ (.bool true)) X g ⟨ta, tc, na, nc, some ⟨rb, ro, none⟩, rac⟩ ((g.rules.take (q + 1)).foldl Nl.by1 bs)) := by
                rw [ST.out]
                have : Nl.by1 cs ((m : Int), yr) = Nl.tell cs (m : Int) := by unfold Nl.by1; rw [if_pos ha]
                rw [this]; exact hA.out.set m
              clear HA hA ST hcs
              go_wp2_with (go_at_call 56; refine Calls.mono HA1.out ?_; rintro e w3 ⟨rfl, rfl⟩)
              go_roundw
              case rel => exact ⟨q + 1, by omega, by go_num, N1⟩
              case measure => simp [intOf]; omega
          · have e : q = g.rules.length := by omega
            subst e
            rw [List.take_length] at hA
            have hR2 : Hid _ := hR.out.step HF.out.zero
            clear hR
            go_wp2_with fail
            go_roundw
            case rel => exact ⟨k + 1, _, by omega, by go_num, hA, hR2⟩
            case measure => simp [intOf]; omega
      · go_wp2_with fail
        go_ret
        have hd := hR.out.done HF.out.zero (by omega)
        have hb := hA.out.bools
        rw [hd] at hb
        refine ⟨some ⟨X, 0, none⟩, g.terms.length + g.names.length, ?_, ?_, hA.out.below⟩
        · rw [R.out, Nl.nulls_len]; rfl
        · rw [R.out]; exact hb

end Go.Proofs.YtdocbgfpnaiijaaGreat
