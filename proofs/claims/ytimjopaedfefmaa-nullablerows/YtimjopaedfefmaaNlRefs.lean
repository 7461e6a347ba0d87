/-
  The document's own answers of layer 6: all, Of; the statements' own comparing of answers.
  The document's own answers of layer 6: Of, All, Rule.
-/
import Derived.Test.YtimjopaedfefmaaNlOfs
import Derived.Test.YtimjopaedfefmaaGrRefGood
namespace Go.Proofs.Ytimjopaedfefmaa
open Go.RowKit Go.Conc

set_option maxHeartbeats 1600000 in
theorem refall_is (r : Bool) (bs : List Bool) (xs : List Int) (hx : xs.length ≤ 4000) (io ao : Option Addr) (ic c : Nat) (w : World) (h : BoolsAt w.heap.size w io bs) (hxs : IntsAt w.heap.size w ao xs) (hr : Nl.allIn bs xs = r) :
    Calls Try.prog 45 #[.slice ao xs.length c, .slice io bs.length ic] w fun e w' => e = .returned (.bool r) ∧ w' = w := by
  have HC : Hid _ := hxs.get
  have HB : Hid _ := h.get
  have HR : Hid _ := hr
  clear h hxs hr
  go_enter Try.func45, Try.ntmps45
  go_wp2_with fail
  go_loop [5] (fun i => ∃ q : Nat, q ≤ xs.length ∧ i = .int .i64 q ∧ Hid (Nl.allIn bs (xs.drop q) = r)) (fun i => xs.length - (intOf i).toNat)
  case atStart => exact ⟨0, Nat.zero_le _, rfl, by show _ = _; rw [List.drop_zero]; exact HR.out⟩
  case round =>
    obtain ⟨q, hq, rfl, hE⟩ := hrel
    by_cases hlt : q < xs.length
    · obtain ⟨b, o, rfl, hb1, _, k0⟩ := HC.out q hlt
      have PE := hE.out
      rw [allIn_drop bs xs q hlt] at PE
      generalize xs[q] = x at *
      by_cases h0 : x < 0
      · have R : Hid (r = false) := by
          show _ = _; rw [← PE]
          have : Nl.isAt bs x = false := by simp [Nl.isAt]; omega
          rw [this]; rfl
        have hd : decide (x < 0) = true := decide_eq_true h0
        clear PE hE h0
        go_wp2_with fail
        go_ret
        exact ⟨ret_bool R.out.symm, rfl⟩
      · have hd : decide (x < 0) = false := decide_eq_false h0
        by_cases h1 : x < bs.length
        · obtain ⟨k, rfl⟩ : ∃ k : Nat, x = k := ⟨x.toNat, by omega⟩
          have hk : k < bs.length := by omega
          have hd1 : decide (bs.length ≤ k) = false := by simp; omega
          obtain ⟨b2, o2, rfl, _, _, c1⟩ := HB.out k hk
          have e : Nl.isAt bs (k : Int) = bs[k] := by rw [Nl.isAt_get (by omega) (by simpa using hk)]; simp
          rw [e] at PE
          clear e
          generalize bs[k] = y at *
          cases y
          · have R : Hid (r = false) := by show _ = _; rw [← PE]; rfl
            clear PE hE
            go_wp2_with fail
            go_ret
            exact ⟨ret_bool R.out.symm, rfl⟩
          · have R : Hid (Nl.allIn bs (xs.drop (q + 1)) = r) := by show _ = _; rw [← PE]; rfl
            clear PE hE
            go_wp2_with fail
            go_round
            case rel => exact ⟨q + 1, by omega, by go_num, R⟩
            case measure => simp [intOf]; omega
        · have hd1 : decide ((bs.length : Int) ≤ x) = true := by simp; omega
          have R : Hid (r = false) := by
            show _ = _; rw [← PE]
            cases e : Nl.isAt bs x
            · rfl
            · have := (Nl.isAt_lt e).2; omega
          clear PE hE h0 h1
          go_wp2_with fail
          go_ret
          exact ⟨ret_bool R.out.symm, rfl⟩
    · have R : Hid (r = true) := by show _ = _; rw [← hE.out, List.drop_of_length_le (by omega)]; rfl
      clear hE
      go_wp2_with fail
      go_ret
      exact ⟨ret_bool R.out.symm, rfl⟩

set_option maxHeartbeats 800000 in
theorem keepBools_is (r : Bool) (xs ys : List Bool) (hl : xs.length ≤ 4000) (ao ao' : Option Addr) (c c' : Nat) (w : World) (h1 : BoolsAt w.heap.size w ao xs) (h2 : BoolsAt w.heap.size w ao' ys) (e : xs = ys) (hr : r = true) :
    Calls Try.prog 17 #[.slice ao xs.length c, .slice ao' ys.length c'] w fun e w' => e = .returned (.bool r) ∧ Below w.heap.size w w' := by
  subst e
  subst hr
  have RA : Hid _ := h1.get
  have RB : Hid _ := h2.get
  clear h1 h2
  have hne : ((xs.length : Int) != (xs.length : Int)) = false := by simp
  go_enter Try.func17, Try.ntmps17
  go_wp2_with fail
  go_loopw [5] (fun i wr => ∃ k : Nat, k ≤ xs.length ∧ i = .int .i64 k ∧ ∃ n, wr = w.drewN n) (fun i _ => xs.length - (intOf i).toNat)
  case atStart => exact ⟨0, Nat.zero_le _, rfl, 0, rfl⟩
  case round =>
    obtain ⟨k, hk, rfl, n, rfl⟩ := hrel
    by_cases hlt : k < xs.length
    · obtain ⟨g, o, rfl, _, _, a0⟩ := RA.out k hlt
      obtain ⟨g', o', rfl, _, _, b0⟩ := RB.out k hlt
      have hxx : (xs[k] != xs[k]) = false := by simp
      generalize xs[k] = x at *
      go_wp2_with fail
      go_quiet (fail)
      go_wp2_with fail
      go_roundw
      case rel => exact ⟨k + 1, by omega, by go_num, _, rfl⟩
      case measure => simp [intOf]; omega
    · go_wp2_with fail
      go_ret
      exact ⟨rfl, below_drewN (Below.refl _ w) n⟩
end Go.Proofs.Ytimjopaedfefmaa

namespace Go.Proofs.Ytimjopaedfefmaa
open Go.RowKit Go.Conc

/-- what holds of memory while the document's Of goes -/
structure ROInv (w wr : World) (X : Nat) (g : Gr.Gm) (A : GA) (bs : List Bool) : Prop where
  below : Below w.heap.size w wr
  lt : w.heap.size < X
  gb : wr.heap[w.heap.size]? = some (.cells #[.slice A.ta g.terms.length A.tc, .slice A.na g.names.length A.nc, .slice A.ra g.rules.length A.rc] 26 (0, 0))
  xb : wr.heap[X]? = some (.cells (bs.map Value.bool).toArray 4 (0, 0))

theorem ROInv.bools {w wr : World} {X : Nat} {g : Gr.Gm} {A : GA} {bs : List Bool} (h : ROInv w wr X g A bs) : BoolsAt wr.heap.size wr (some ⟨X, 0, none⟩) bs := by
  have hlt := (Array.getElem?_eq_some_iff.1 h.xb).1
  intro i hi
  have hi' : i < bs.length := by simpa using hi
  refine ⟨X, 0, rfl, hlt, hlt, ?_⟩
  simp [World.cell?, h.xb, hi']
theorem ROInv.set {w wr : World} {X : Nat} {g : Gr.Gm} {A : GA} {bs : List Bool} (h : ROInv w wr X g A bs) (k : Nat) : ROInv w (wr.setCell ⟨X, k, none⟩ (.bool true)) X g A (Nl.tell bs k) := by
  have hl := h.lt
  have hne : w.heap.size ≠ X := by omega
  refine ⟨h.below.setCell (by show w.heap.size ≤ X; omega) _, h.lt, (Below.heap_setCell _ _ _ _ hne).trans h.gb, ?_⟩
  simp [World.setCell, Array.getElem?_modify, h.xb, Nl.tell, List.map_set]
theorem ROInv.cell {w wr : World} {X : Nat} {g : Gr.Gm} {A : GA} {bs : List Bool} (h : ROInv w wr X g A bs) (k : Nat) (hk : k < bs.length) : wr.cell? ⟨X, k, none⟩ = some (.bool bs[k]) ∧ wr.frozen? ⟨X, k, none⟩ = false := by
  constructor
  · simp [World.cell?, h.xb, hk]
  · simp [World.frozen?, h.xb]

theorem pass_step (rs : List Gr.Rl) (b : List Bool) (k : Nat) (h : k < rs.length) : (rs.take (k + 1)).foldl Nl.by1 b = Nl.by1 ((rs.take k).foldl Nl.by1 b) rs[k] := Gr.take_step _ _ _ _ h
theorem pass_len (rs : List Gr.Rl) (b : List Bool) : (rs.foldl Nl.by1 b).length = b.length := (Nl.pass_le rs b).1.symm

set_option maxRecDepth 100000 in
set_option maxHeartbeats 3200000 in
theorem refOf6_is (g : Gr.Gm) (A : GA) (w : World) (hm : ∀ x ∈ g.rules, x.2.length ≤ maxLen) (h : GmAt w.heap.size w g A) :
    Calls Try.prog 19 #[.agg (gmCells g A)] w fun e w' => ∃ ao c, e = .returned (.slice ao (Nl.of g).length c) ∧ Hid (BoolsAt w'.heap.size w' ao (Nl.of g)) ∧ Hid (Below w.heap.size w w') := by
  obtain ⟨ta, tc, na, nc, ra, rac⟩ := A
  have HG : Hid (GmAt w.heap.size w g ⟨ta, tc, na, nc, ra, rac⟩) := h
  have HGD : Hid (∀ (r : Bool) (W : World), Below w.heap.size w W → Gr.good g = r → Calls Try.prog 26 #[.agg (gmCells g ⟨ta, tc, na, nc, ra, rac⟩)] W fun e w' => e = .returned (.bool r) ∧ Below W.heap.size W w') := fun r W hW hr => refGood_any r g _ W hm (h.next hW) (by rw [Gr.refGood_is]; exact hr)
  have hbW : Hid (Below w.heap.size w (w.alloc (Obj.cells #[.slice ta g.terms.length tc, .slice na g.names.length nc, .slice ra g.rules.length rac] 26))) := (Below.refl _ w).alloc (Nat.le_refl _) _
  have B0 : Hid ((w.alloc (Obj.cells #[.slice ta g.terms.length tc, .slice na g.names.length nc, .slice ra g.rules.length rac] 26)).heap[w.heap.size]? = some (.cells #[.slice ta g.terms.length tc, .slice na g.names.length nc, .slice ra g.rules.length rac] 26 (0, 0))) := heap_alloc_new w _
  clear h hm
  simp only [gmCells] at HGD ⊢
  cases hg : Gr.good g
  · have R : Hid (Nl.of g = []) := Nl.of_no hg
    have HC1 : Hid (∀ _ : Unit, _) := fun _ => HGD.out false _ hbW.out hg
    clear HGD
    go_enter Try.func19, Try.ntmps19
    go_wp2_with (go_at_call 26; refine Calls.mono (HC1.out ()) ?_; rintro e w1 ⟨rfl, hb1⟩)
    go_ret
    refine ⟨none, 0, by rw [R.out]; rfl, ?_, hbW.out.trans (hb1.mono hbW.out.size)⟩
    rw [R.out]; exact CellsAt.nil
  · have R : Hid (Nl.of g = Nl.nulls g.rules (g.terms.length + g.names.length)) := by show _ = _; simp [Nl.of, hg]
    have HC1 : Hid (∀ _ : Unit, _) := fun _ => HGD.out true _ hbW.out hg
    obtain ⟨hsz, h8⟩ := Nl.sizes_of hg
    have HF : Hid _ := Nl.fit_of hg
    have H8 : Hid _ := h8
    have hmb := make_bools6 g.terms.length g.names.length (by omega)
    clear HGD h8
    go_enter Try.func19, Try.ntmps19
    go_wp2_with (go_at_call 26; fail)
    generalize (w.alloc (Obj.cells #[.slice ta g.terms.length tc, .slice na g.names.length nc, .slice ra g.rules.length rac] 26)) = W at *
    refine Calls.mono (HC1.out ()) ?_
    rintro e w1 ⟨rfl, hb1⟩
    have B1 : Hid _ := (hb1.block _ (Array.getElem?_eq_some_iff.1 B0.out).1).trans B0.out
    have HB1 : Hid _ := hbW.out.trans (hb1.mono hbW.out.size)
    have hzl := (Array.getElem?_eq_some_iff.1 B1.out).1
    obtain ⟨g0, g1, g2, _⟩ := cells_three_z B1.out
    have HI : Hid (ROInv w (w1.alloc (.cells (Array.replicate (g.terms.length + g.names.length) (Value.bool false)) 4)) w1.heap.size g ⟨ta, tc, na, nc, ra, rac⟩ (List.replicate (g.terms.length + g.names.length) false)) :=
      ⟨HB1.out.alloc HB1.out.size _, hzl, (Below.heap_alloc _ _ _ hzl).trans B1.out, by rw [heap_alloc_new]; simp⟩
    clear hb1 B0 hbW HC1 B1 HB1
    go_upto_region 4 with fail
    generalize (w1.alloc (.cells (Array.replicate (g.terms.length + g.names.length) (Value.bool false)) 4)) = W2 at *
    generalize w1.heap.size = X at *
    clear g0 g1 g2
    go_wp2_with fail
    go_loopw [4, 5] (fun i _ wr => ∃ (k : Nat) (bs : List Bool), k ≤ g.terms.length + g.names.length ∧ i = .int .i64 k ∧ Hid (ROInv w wr X g ⟨ta, tc, na, nc, ra, rac⟩ bs) ∧ Hid (Nl.Rd 0 (g.terms.length + g.names.length) g.rules k bs)) (fun i _ _ => g.terms.length + g.names.length - (intOf i).toNat)
    case atStart => exact ⟨0, _, Nat.zero_le _, rfl, HI, Nl.Rd.start⟩
    case round =>
      obtain ⟨k, bs, hk, rfl, hA, hR⟩ := hrel
      clear HI
      have hln := hR.out.len
      by_cases hkl : k < g.terms.length + g.names.length
      · have hki : (k : Int) < (g.terms.length : Int) + (g.names.length : Int) := by omega
        have P0 : Hid (ROInv w wr X g ⟨ta, tc, na, nc, ra, rac⟩ ((g.rules.take 0).foldl Nl.by1 bs)) := hA
        go_upto_region 8 with fail
        clear hA
        go_loopw [5] (fun i wc => ∃ q : Nat, q ≤ g.rules.length ∧ i = .int .i64 q ∧ Hid (ROInv w wc X g ⟨ta, tc, na, nc, ra, rac⟩ ((g.rules.take q).foldl Nl.by1 bs))) (fun i _ => g.rules.length - (intOf i).toNat)
        case atStart => exact ⟨0, Nat.zero_le _, rfl, P0⟩
        case round =>
          obtain ⟨q, hq, rfl, hA⟩ := hrel
          clear P0
          obtain ⟨g0, g1, g2, _⟩ := cells_three_z hA.out.gb
          simp only at g0 g1 g2
          by_cases hql : q < g.rules.length
          · have hqi : (q : Int) < (g.rules.length : Int) := by omega
            obtain ⟨rb, ro, yo, yc, hra, _, _, y0, y1, yI, _⟩ := HG.out.rules q hql
            simp only at hra
            subst hra
            have hmm : g.rules[q] ∈ g.rules := List.getElem_mem hql
            have h8q := H8.out _ hmm
            have hlf := HF.out.left _ hmm
            have ST : Hid _ := pass_step g.rules bs q hql
            have hpl := pass_len (g.rules.take q) bs
            have HY : Hid (IntsAt w.heap.size w yo g.rules[q].2) := yI
            clear hmm yI
            generalize g.rules[q] = y at *
            obtain ⟨yl, yr⟩ := y
            simp only at y0 y1 HY h8q hlf
            obtain ⟨m, rfl⟩ : ∃ m : Nat, yl = m := ⟨yl.toNat, by omega⟩
            replace y0 := cell_later hA.out.below y0
            replace y1 := cell_later hA.out.below y1
            generalize hcs : (g.rules.take q).foldl Nl.by1 bs = cs at *
            have hml : m < cs.length := by rw [hpl, hln]; omega
            obtain ⟨d0, d1⟩ := hA.out.cell m hml
            have hgl : cs.length = g.terms.length + g.names.length := by rw [hpl, hln]
            have HA : Hid (∀ b : Bool, Nl.allIn cs yr = b → Calls Try.prog 45 #[.slice yo yr.length yc, .slice (some ⟨X, 0, none⟩) (g.terms.length + g.names.length) (g.terms.length + g.names.length)] wr fun e w' => e = .returned (.bool b) ∧ w' = wr) := fun b hb => by
              rw [← hgl]
              exact refall_is b cs yr (by omega) _ yo _ yc wr hA.out.bools (HY.out.later hA.out.below).size hb
            cases ha : Nl.allIn cs yr
            · have HA1 : Hid _ := HA.out false ha
              have N1 : Hid (ROInv w wr X g ⟨ta, tc, na, nc, some ⟨rb, ro, none⟩, rac⟩ ((g.rules.take (q + 1)).foldl Nl.by1 bs)) := by
                rw [ST.out]
                have : Nl.by1 cs ((m : Int), yr) = cs := by unfold Nl.by1; rw [if_neg (by simp [ha])]
                rw [this]; exact hA
              clear HA hA ST hcs
              go_wp2_with (go_at_call 45; refine Calls.mono HA1.out ?_; rintro e w3 ⟨rfl, rfl⟩)
              go_roundw
              case rel => exact ⟨q + 1, by omega, by go_num, N1⟩
              case measure => simp [intOf]; omega
            · have HA1 : Hid _ := HA.out true ha
              have N1 : Hid (ROInv w (wr.setCell ⟨X, m, none⟩ (.bool true)) X g ⟨ta, tc, na, nc, some ⟨rb, ro, none⟩, rac⟩ ((g.rules.take (q + 1)).foldl Nl.by1 bs)) := by
                rw [ST.out]
                have : Nl.by1 cs ((m : Int), yr) = Nl.tell cs (m : Int) := by unfold Nl.by1; rw [if_pos ha]
                rw [this]; exact hA.out.set m
              clear HA hA ST hcs
              go_wp2_with (go_at_call 45; refine Calls.mono HA1.out ?_; rintro e w3 ⟨rfl, rfl⟩)
              go_roundw
              case rel => exact ⟨q + 1, by omega, by go_num, N1⟩
              case measure => simp [intOf]; omega
          · have e : q = g.rules.length := by omega
            subst e
            rw [List.take_length] at hA
            have hR2 : Hid _ := hR.out.step HF.out.zero
            clear hR
            go_wp2_with fail
            go_roundw
            case rel => exact ⟨k + 1, _, by omega, by go_num, hA, hR2⟩
            case measure => simp [intOf]; omega
      · go_wp2_with fail
        go_ret
        have hd := hR.out.done HF.out.zero (by omega)
        have hb := hA.out.bools
        rw [hd] at hb
        refine ⟨some ⟨X, 0, none⟩, g.terms.length + g.names.length, ?_, ?_, hA.out.below⟩
        · rw [R.out, Nl.nulls_len]; rfl
        · rw [R.out]; exact hb

set_option maxRecDepth 100000 in
set_option maxHeartbeats 1600000 in
theorem refAll6_is (r : Bool) (g : Gr.Gm) (A : GA) (l : List Int) (ao : Option Addr) (c : Nat) (w : World) (hm : ∀ x ∈ g.rules, x.2.length ≤ maxLen) (h : GmAt w.heap.size w g A) (hl : IntsAt w.heap.size w ao l) (hll : l.length ≤ 4000) (hr : Nl.all g l = r) :
    Calls Try.prog 23 #[.agg (gmCells g A), .slice ao l.length c] w fun e w' => e = .returned (.bool r) ∧ Below w.heap.size w w' := by
  obtain ⟨ta, tc, na, nc, ra, rac⟩ := A
  have HGD : Hid (∀ (r : Bool) (W : World), Below w.heap.size w W → Gr.good g = r → Calls Try.prog 26 #[.agg (gmCells g ⟨ta, tc, na, nc, ra, rac⟩)] W fun e w' => e = .returned (.bool r) ∧ Below W.heap.size W w') := fun r W hW hr => refGood_any r g _ W hm (h.next hW) (by rw [Gr.refGood_is]; exact hr)
  have HO : Hid (∀ W : World, Below w.heap.size w W → Calls Try.prog 19 #[.agg (gmCells g ⟨ta, tc, na, nc, ra, rac⟩)] W fun e w' => ∃ ao c, e = .returned (.slice ao (Nl.of g).length c) ∧ Hid (BoolsAt w'.heap.size w' ao (Nl.of g)) ∧ Hid (Below W.heap.size W w')) := fun W hW => refOf6_is g _ W hm (h.next hW)
  have HL : Hid (IntsAt w.heap.size w ao l) := hl
  have HR : Hid _ := hr
  have hbW : Hid (Below w.heap.size w (w.alloc (Obj.cells #[.slice ta g.terms.length tc, .slice na g.names.length nc, .slice ra g.rules.length rac] 26))) := (Below.refl _ w).alloc (Nat.le_refl _) _
  have B0 : Hid ((w.alloc (Obj.cells #[.slice ta g.terms.length tc, .slice na g.names.length nc, .slice ra g.rules.length rac] 26)).heap[w.heap.size]? = some (.cells #[.slice ta g.terms.length tc, .slice na g.names.length nc, .slice ra g.rules.length rac] 26 (0, 0))) := heap_alloc_new w _
  clear h hl hr hm
  simp only [gmCells] at HO HGD ⊢
  cases hg : Gr.good g
  · have HC1 : Hid (∀ _ : Unit, _) := fun _ => HGD.out false _ hbW.out hg
    have R : Hid (r = false) := by show _ = _; rw [← HR.out]; simp [Nl.all, hg]
    clear HGD HO
    go_enter Try.func23, Try.ntmps23
    go_wp2_with (go_at_call 26; refine Calls.mono (HC1.out ()) ?_; rintro e w1 ⟨rfl, hb1⟩)
    go_ret
    exact ⟨ret_bool R.out.symm, hbW.out.trans (hb1.mono hbW.out.size)⟩
  · have HC1 : Hid (∀ _ : Unit, _) := fun _ => HGD.out true _ hbW.out hg
    have R : Hid (Nl.allIn (Nl.of g) l = r) := by show _ = _; rw [← HR.out]; simp [Nl.all, hg]
    clear HGD
    go_enter Try.func23, Try.ntmps23
    go_wp2_with (go_at_call 26; fail)
    generalize (w.alloc (Obj.cells #[.slice ta g.terms.length tc, .slice na g.names.length nc, .slice ra g.rules.length rac] 26)) = W at *
    refine Calls.mono (HC1.out ()) ?_
    rintro e w1 ⟨rfl, hb1⟩
    have B1 : Hid _ := (hb1.block _ (Array.getElem?_eq_some_iff.1 B0.out).1).trans B0.out
    have HB1 : Hid _ := hbW.out.trans (hb1.mono hbW.out.size)
    obtain ⟨g0, g1, g2, _⟩ := cells_three_z B1.out
    clear hb1 B0 hbW HC1 B1
    go_wp2_with (go_at_call 19; fail)
    refine Calls.mono (HO.out _ HB1.out) ?_
    rintro e w2 ⟨io, ic, rfl, hb, hb2⟩
    have HB2 : Hid _ := HB1.out.trans (hb2.out.mono HB1.out.size)
    have HA : Hid _ := refall_is r (Nl.of g) l hll io ao ic c w2 hb.out (HL.out.later HB2.out).size R.out
    clear hb HR R HO g0 g1 g2 hb2
    generalize Nl.of g = bs at *
    go_wp2_with (go_at_call 45; refine Calls.mono HA.out ?_; rintro e w3 ⟨rfl, rfl⟩)
    go_ret
    exact ⟨rfl, HB2.out⟩

set_option maxRecDepth 100000 in
set_option maxHeartbeats 1600000 in
theorem refRule6_is (r : Bool) (g : Gr.Gm) (A : GA) (i : Int) (w : World) (hm : ∀ x ∈ g.rules, x.2.length ≤ 4000) (h : GmAt w.heap.size w g A) (hr : Nl.rule g i = r) :
    Calls Try.prog 21 #[.agg (gmCells g A), .int .i64 i] w fun e w' => e = .returned (.bool r) ∧ Below w.heap.size w w' := by
  obtain ⟨ta, tc, na, nc, ra, rac⟩ := A
  have HG : Hid (GmAt w.heap.size w g ⟨ta, tc, na, nc, ra, rac⟩) := h
  have HM : Hid _ := hm
  have HR : Hid _ := hr
  have HML : Hid (∀ x ∈ g.rules, x.2.length ≤ maxLen) := fun x hx => Nat.le_trans (hm x hx) (by unfold maxLen; omega)
  have HGD : Hid (∀ (r : Bool) (W : World), Below w.heap.size w W → Gr.good g = r → Calls Try.prog 26 #[.agg (gmCells g ⟨ta, tc, na, nc, ra, rac⟩)] W fun e w' => e = .returned (.bool r) ∧ Below W.heap.size W w') := fun r W hW hr => refGood_any r g _ W HML.out (h.next hW) (by rw [Gr.refGood_is]; exact hr)
  have hbW : Hid (Below w.heap.size w (w.alloc (Obj.cells #[.slice ta g.terms.length tc, .slice na g.names.length nc, .slice ra g.rules.length rac] 26))) := (Below.refl _ w).alloc (Nat.le_refl _) _
  have B0 : Hid ((w.alloc (Obj.cells #[.slice ta g.terms.length tc, .slice na g.names.length nc, .slice ra g.rules.length rac] 26)).heap[w.heap.size]? = some (.cells #[.slice ta g.terms.length tc, .slice na g.names.length nc, .slice ra g.rules.length rac] 26 (0, 0))) := heap_alloc_new w _
  clear h hr hm
  simp only [gmCells] at HGD ⊢
  go_enter Try.func21, Try.ntmps21
  go_wp2_with fail
  generalize (w.alloc (Obj.cells #[.slice ta g.terms.length tc, .slice na g.names.length nc, .slice ra g.rules.length rac] 26)) = W at *
  obtain ⟨g0, g1, g2, _⟩ := cells_three_z B0.out
  have G0 : ∀ p : Later W, p.w.cell? ⟨w.heap.size, 0, none⟩ = some (.slice ta g.terms.length tc) := Later.cell g0
  have G1 : ∀ p : Later W, p.w.cell? ⟨w.heap.size, 1, none⟩ = some (.slice na g.names.length nc) := Later.cell g1
  have G2 : ∀ p : Later W, p.w.cell? ⟨w.heap.size, 2, none⟩ = some (.slice ra g.rules.length rac) := Later.cell g2
  cases hg : Gr.good g
  · have R : Hid (r = false) := by show _ = _; rw [← HR.out]; simp [Nl.rule, Nl.all, hg]
    have HC1 : Hid (∀ p : Later W, _) := fun p => Calls.later_of (HGD.out false p.w (hbW.out.trans (Below.mono p.h hbW.out.size)) hg)
    clear HGD HR
    refine wp_region_later (by kernel_rfl) (by kernel_rfl) ?_
    repeat (first | go_big_quiet_step (first | (go_at_call 26; exact HC1.out _)) | quiet_step (first | (go_at_call 26; exact HC1.out _)))
    refine wpQuiet_nil ?_
    intro _ hw'
    obtain ⟨pq, hw''⟩ := hw'
    subst hw''
    go_wp2_with fail
    go_ret
    exact ⟨ret_bool R.out.symm, hbW.out.trans (pq.h.mono hbW.out.size)⟩
  · have HC1 : Hid (∀ p : Later W, _) := fun p => Calls.later_of (HGD.out true p.w (hbW.out.trans (Below.mono p.h hbW.out.size)) hg)
    clear HGD
    by_cases h0 : 0 ≤ i
    · have hd0 : decide (0 ≤ i) = true := decide_eq_true h0
      by_cases h1 : i < (g.rules.length : Int)
      · obtain ⟨k, rfl⟩ : ∃ k : Nat, i = k := ⟨i.toNat, by omega⟩
        have hk : k < g.rules.length := by omega
        obtain ⟨rb, ro, yo, yc, hra, _, _, y0, y1, yI, _⟩ := HG.out.rules k hk
        simp only at hra
        subst hra
        have h8k := HM.out _ (List.getElem_mem hk)
        have R : Hid (Nl.all g g.rules[k].2 = r) := by show _ = _; rw [← HR.out]; simp [Nl.rule, hk]
        have HY : Hid (IntsAt w.heap.size w yo g.rules[k].2) := yI
        have HA : Hid (∀ p : Later W, Calls Try.prog 23 #[.agg (gmCells g ⟨ta, tc, na, nc, some ⟨rb, ro, none⟩, rac⟩), .slice yo g.rules[k].2.length yc] p.w fun e w'' => e = .returned (.bool r) ∧ ∃ q : Later W, w'' = q.w) :=
          fun p => Calls.later_of (refAll6_is r g _ _ yo yc p.w HML.out (HG.out.next (hbW.out.trans (Below.mono p.h hbW.out.size))) (HY.out.later (hbW.out.trans (Below.mono p.h hbW.out.size))).size h8k R.out)
        simp only [gmCells] at HA
        generalize g.rules[k] = y at *
        obtain ⟨yl, yr⟩ := y
        simp only at y0 y1 HY h8k HA
        replace y1 := cell_later hbW.out y1
        have Y1 : ∀ p : Later W, p.w.cell? ⟨rb, ro + k * 2 + 1, none⟩ = some (.slice yo yr.length yc) := Later.cell y1
        clear yI R HR y0 y1
        refine wp_region_later (by kernel_rfl) (by kernel_rfl) ?_
        repeat (first | go_big_quiet_step (first | (go_at_call 26; exact HC1.out _) | (go_at_call 23; exact HA.out _)) | quiet_step (first | (go_at_call 26; exact HC1.out _) | (go_at_call 23; exact HA.out _)))
        refine wpQuiet_nil ?_
        intro _ hw'
        obtain ⟨pq, hw''⟩ := hw'
        subst hw''
        go_wp2_with fail
        go_ret
        exact ⟨rfl, hbW.out.trans (pq.h.mono hbW.out.size)⟩
      · have hd1 : decide (i < (g.rules.length : Int)) = false := decide_eq_false h1
        have R : Hid (r = false) := by show _ = _; rw [← HR.out]; simp [Nl.rule]; omega
        clear HR
        refine wp_region_later (by kernel_rfl) (by kernel_rfl) ?_
        repeat (first | go_big_quiet_step (first | (go_at_call 26; exact HC1.out _)) | quiet_step (first | (go_at_call 26; exact HC1.out _)))
        refine wpQuiet_nil ?_
        intro _ hw'
        obtain ⟨pq, hw''⟩ := hw'
        subst hw''
        go_wp2_with fail
        go_ret
        exact ⟨ret_bool R.out.symm, hbW.out.trans (pq.h.mono hbW.out.size)⟩
    · have hd0 : decide (0 ≤ i) = false := decide_eq_false h0
      have R : Hid (r = false) := by show _ = _; rw [← HR.out]; simp [Nl.rule]; omega
      clear HR
      refine wp_region_later (by kernel_rfl) (by kernel_rfl) ?_
      repeat (first | go_big_quiet_step (first | (go_at_call 26; exact HC1.out _)) | quiet_step (first | (go_at_call 26; exact HC1.out _)))
      refine wpQuiet_nil ?_
      intro _ hw'
      obtain ⟨pq, hw''⟩ := hw'
      subst hw''
      go_wp2_with fail
      go_ret
      exact ⟨ret_bool R.out.symm, hbW.out.trans (pq.h.mono hbW.out.size)⟩
end Go.Proofs.Ytimjopaedfefmaa
