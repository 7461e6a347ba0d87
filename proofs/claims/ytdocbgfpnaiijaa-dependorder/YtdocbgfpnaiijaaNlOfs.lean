/-
  Layer 6 (nullable): Of: of each symbol, whether it derives no token at all.
  Layer 6 (nullable): All, Rule.
-/
import Derived.Test.YtdocbgfpnaiijaaNlSearch
import Derived.Test.YtdocbgfpnaiijaaGrGood6
import Derived.Test.YtdocbgfpnaiijaaGrQuiet
import Derived.BigQuiet
namespace Go.Proofs.Ytdocbgfpnaiijaa
open Go.RowKit Go.Conc

/-- of each symbol of a grammar that may be -/
noncomputable def Nl.of (g : Gr.Gm) : List Bool := if Gr.good g = true then Nl.nulls g.rules (g.terms.length + g.names.length) else []

/-- what holds of memory while Of goes -/
structure OInv6 (T n I C S : Nat) (g : Gr.Gm) (A : GA) (st : Nl.St) (w wr : World) : Prop where
  below : Below w.heap.size w wr
  lt : w.heap.size ≤ I ∧ w.heap.size ≤ C
  at' : SAt I C (n - T) st wr
  inv : Nl.Inv T n g.rules (fun _ => False) st
  sb : wr.heap[S]? = some (.cells (schCells g A I n C) 86 (0, 0))

theorem OInv6.ne {T n I C S : Nat} {g : Gr.Gm} {A : GA} {st : Nl.St} {w wr : World} (h : OInv6 T n I C S g A st w wr) : S ≠ I ∧ S ≠ C := by
  constructor
  · intro e; subst e
    have := h.at'.is
    rw [h.sb] at this
    exact absurd (Obj.cells.inj (Option.some.inj this)).2.1 (by decide)
  · intro e; subst e
    obtain ⟨_, _, hc⟩ := h.at'.ch
    rw [h.sb] at hc
    cases hc

set_option maxRecDepth 100000 in
set_option maxHeartbeats 3200000 in
theorem nof_is (g : Gr.Gm) (A : GA) (w : World) (hm : ∀ x ∈ g.rules, x.2.length ≤ maxLen) (h : GmAt w.heap.size w g A) :
    Calls Try.prog 38 #[.agg (gmCells g A)] w fun e w' => ∃ ao c, e = .returned (.slice ao (Nl.of g).length c) ∧ Hid (BoolsAt w'.heap.size w' ao (Nl.of g)) ∧ Hid (Below w.heap.size w w') := by
  obtain ⟨ta, tc, na, nc, ra, rac⟩ := A
  have HG : Hid (GmAt w.heap.size w g ⟨ta, tc, na, nc, ra, rac⟩) := h
  have HGD : Hid (∀ (r : Bool) (W : World), Below w.heap.size w W → Gr.good g = r → Calls Try.prog 40 #[.agg (gmCells g ⟨ta, tc, na, nc, ra, rac⟩)] W fun e w' => e = .returned (.bool r) ∧ Below W.heap.size W w') := fun r W hW hr => good_is r g _ W hm (h.next hW) hr
  have hbW : Hid (Below w.heap.size w (w.alloc (Obj.cells #[.slice ta g.terms.length tc, .slice na g.names.length nc, .slice ra g.rules.length rac] 25))) := (Below.refl _ w).alloc (Nat.le_refl _) _
  have B0 : Hid ((w.alloc (Obj.cells #[.slice ta g.terms.length tc, .slice na g.names.length nc, .slice ra g.rules.length rac] 25)).heap[w.heap.size]? = some (.cells #[.slice ta g.terms.length tc, .slice na g.names.length nc, .slice ra g.rules.length rac] 25 (0, 0))) := heap_alloc_new w _
  clear h hm
  simp only [gmCells] at HGD ⊢
  cases hg : Gr.good g
  · have R : Hid (Nl.of g = []) := by show _ = _; simp [Nl.of, hg]
    have HC1 : Hid (∀ _ : Unit, _) := fun _ => HGD.out false _ hbW.out hg
    clear HGD
    go_enter Try.func38, Try.ntmps38
    go_wp2_with (go_at_call 40; refine (HC1.out ()).mono ?_; rintro e w1 ⟨rfl, hb1⟩)
    go_ret
    refine ⟨none, 0, by rw [R.out]; rfl, ?_, hbW.out.trans (hb1.mono hbW.out.size)⟩
    rw [R.out]; exact CellsAt.nil
  · have R : Hid (Nl.of g = Nl.nulls g.rules (g.terms.length + g.names.length)) := by show _ = _; simp [Nl.of, hg]
    have HC1 : Hid (∀ _ : Unit, _) := fun _ => HGD.out true _ hbW.out hg
    obtain ⟨hsz, h8⟩ := Nl.sizes_of hg
    have HF : Hid _ := Nl.fit_of hg
    have H8 : Hid (∀ r ∈ g.rules, r.2.length ≤ 4000) := fun r hr => Nat.le_trans (h8 r hr) (by omega)
    have HBG : Hid (∀ W : World, Below w.heap.size w W → _) := fun W hW => begun_any g ⟨ta, tc, na, nc, ra, rac⟩ _ W rfl (by omega) HF.out (HG.out.next hW).rules (by omega) H8.out
    have HAR : Hid (∀ (st : Nl.St) (I C : Nat) (x : Int) (W : World), w.heap.size ≤ I ∧ w.heap.size ≤ C → Below w.heap.size w W → SAt I C (g.terms.length + g.names.length - g.terms.length) st W → Nl.Inv g.terms.length (g.terms.length + g.names.length) g.rules (fun r => x ∈ r.2 ∧ r ∈ g.rules.drop 0) st →
        Calls Try.prog 55 #[.agg (schCells g ⟨ta, tc, na, nc, ra, rac⟩ I (g.terms.length + g.names.length) C), .int .i64 x] W fun e w' => e = .returned (.tuple #[]) ∧ ∃ st', Hid (AInv6 g.terms.length (g.terms.length + g.names.length) w.heap.size I C (g.terms.length + g.names.length - g.terms.length) g.rules (fun _ => False) st' (Nl.left g.terms.length (g.terms.length + g.names.length) st) W w')) :=
      fun st I C x W hl hW hS hI => askRulesWith_any st g _ _ _ _ I C x W HF.out hl (HG.out.rules.later hW) (by omega) H8.out hS hI
    simp only [schCells, gmCells] at HAR HBG
    clear HGD h8 H8
    go_enter Try.func38, Try.ntmps38
    go_wp2_with (go_at_call 40; fail)
    generalize (w.alloc (Obj.cells #[.slice ta g.terms.length tc, .slice na g.names.length nc, .slice ra g.rules.length rac] 25)) = W at *
    refine Calls.mono (HC1.out ()) ?_
    rintro e w1 ⟨rfl, hb1⟩
    have B1 : Hid _ := (hb1.block _ (Array.getElem?_eq_some_iff.1 B0.out).1).trans B0.out
    have HB1 : Hid _ := hbW.out.trans (hb1.mono hbW.out.size)
    obtain ⟨g0, g1, g2, _⟩ := cells_three_z B1.out
    clear hb1 B0 hbW HC1
    go_wp2_with (go_at_call 54; fail)
    refine Calls.mono (HBG.out _ HB1.out) ?_
    rintro e w2 ⟨I, C, st, rfl, hI, hC, hb2, hs2, hi2⟩
    have HB2 : Hid _ := HB1.out.trans (hb2.out.mono HB1.out.size)
    have hz := HB1.out.size
    clear g0 g1 g2 B1 HB1 HBG hb2
    have HI : Hid (OInv6 g.terms.length (g.terms.length + g.names.length) I C w2.heap.size g ⟨ta, tc, na, nc, ra, rac⟩ st w (w2.alloc (Obj.cells #[.slice ta g.terms.length tc, .slice na g.names.length nc, .slice ra g.rules.length rac, .slice (some ⟨I, 0, none⟩) (g.terms.length + g.names.length) (g.terms.length + g.names.length), .chan (some C)] 86))) :=
      ⟨HB2.out.alloc HB2.out.size _, ⟨by omega, by omega⟩, hs2.out.later ((Below.refl _ w2).alloc (Nat.le_refl _) _), hi2.out, heap_alloc_new w2 _⟩
    clear hs2 hi2 HB2 hz
    go_upto_region 4 with fail
    generalize (w2.alloc (Obj.cells #[.slice ta g.terms.length tc, .slice na g.names.length nc, .slice ra g.rules.length rac, .slice (some ⟨I, 0, none⟩) (g.terms.length + g.names.length) (g.terms.length + g.names.length), .chan (some C)] 86)) = W3 at *
    generalize w2.heap.size = S at *
    go_loopw [4] (fun _ wr => ∃ (st : Nl.St), Hid (OInv6 g.terms.length (g.terms.length + g.names.length) I C S g ⟨ta, tc, na, nc, ra, rac⟩ st w wr)) (fun _ wr => Nl.left g.terms.length (g.terms.length + g.names.length) (stOf I C wr))
    case atStart => exact ⟨st, HI⟩
    case round =>
      obtain ⟨st', hA⟩ := hrel
      clear HI
      have hsb := hA.out.sb
      simp only [schCells] at hsb
      obtain ⟨⟨c0, c1, c2, c3, c4⟩, _⟩ := cells_five_z hsb
      have hbl := (Array.getElem?_eq_some_iff.1 hsb).1
      clear hsb
      obtain ⟨sn, rn, hch⟩ := hA.out.at'.ch
      have HCH : Hid _ := hch
      clear hch
      obtain ⟨bs, q⟩ := st'
      cases q with
      | nil =>
        go_upto_region 5 with fail
        refine wp_region_head ?_
        refine inReg_default (c := C) (cap := g.terms.length + g.names.length - g.terms.length) (s := sn) (r := rn) (z := .int .i64 0) (tm := false) rfl rfl (by simp [go_sem, execOp, rcase, Act.eval]) HCH.out ?_
        refine inReg_list ?_
        go_wp2_with fail
        go_ret
        have hd := hA.out.inv.done
        have hl := hA.out.inv.len
        simp only at hd hl
        refine ⟨some ⟨I, 0, none⟩, ⟨g.terms.length + g.names.length, ?_⟩, ?_, hA.out.below⟩
        · rw [R.out, ← hd, hl]; rfl
        · rw [R.out, ← hd]; exact hA.out.at'.bools
      | cons x q =>
        go_upto_region 5 with fail
        refine wp_region_head ?_
        refine inReg_taken (c := C) (cap := g.terms.length + g.names.length - g.terms.length) (buf := ((x :: q).map (Value.int .i64)).toArray) (s := sn) (r := rn) (z := .int .i64 0) (closed := false) (tm := false) rfl rfl (by simp [go_sem, execOp, rcase, Act.eval]) HCH.out (by simp) ?_
        refine inReg_list ?_
        have hne := hA.out.ne
        have S4 : Hid _ := hA.out.at'.take sn (rn + 1)
        have hb4 : Hid (But I C wr (wr.setChan C (g.terms.length + g.names.length - g.terms.length) (((x :: q).map (Value.int .i64)).toArray.extract 1 ((x :: q).map (Value.int .i64)).toArray.size) false sn (rn + 1) false)) := (But.refl I C wr).setChan _ _ _ _ _ _
        have hx0 : ((x :: q).map (Value.int .i64)).toArray.getD 0 undef = .int .i64 x := by simp
        rw [hx0]
        generalize (wr.setChan C (g.terms.length + g.names.length - g.terms.length) (((x :: q).map (Value.int .i64)).toArray.extract 1 ((x :: q).map (Value.int .i64)).toArray.size) false sn (rn + 1) false) = W4 at *
        have hsb4 : W4.heap[S]? = some (.cells (schCells g ⟨ta, tc, na, nc, ra, rac⟩ I (g.terms.length + g.names.length) C) 86 (0, 0)) := (hb4.out.block _ hbl hne.1 hne.2).trans hA.out.sb
        have HB4 : Hid (Below w.heap.size w W4) := hA.out.below.trans (hb4.out.below hA.out.lt.1 hA.out.lt.2 hA.out.below.size)
        have HSB : Hid _ := hsb4
        simp only [schCells] at hsb4
        clear c0 c1 c2 c3 c4
        obtain ⟨⟨c0, c1, c2, c3, c4⟩, _⟩ := cells_five_z hsb4
        obtain ⟨hi4, hlt4⟩ := hA.out.inv.take
        have hbl4 := (Array.getElem?_eq_some_iff.1 hsb4).1
        have HCA : Hid _ := HAR.out ⟨bs, q⟩ I C x W4 hA.out.lt HB4.out S4.out hi4
        have HLT : Hid _ := hlt4
        have e1 := hA.out.at'.read
        clear hsb4 hx0 HCH hi4 hlt4
        go_wp2_with (go_at_call 55; fail)
        refine Calls.mono HCA.out ?_
        rintro e w5 ⟨rfl, st5, h5⟩
        have hA5 : Hid (OInv6 g.terms.length (g.terms.length + g.names.length) I C S g ⟨ta, tc, na, nc, ra, rac⟩ st5 w w5) :=
          ⟨HB4.out.trans (h5.out.but.below hA.out.lt.1 hA.out.lt.2 HB4.out.size), hA.out.lt, h5.out.at', h5.out.inv, (h5.out.but.block _ hbl4 hne.1 hne.2).trans HSB.out⟩
        have e2 := h5.out.at'.read
        have hle := h5.out.few
        have HM : Hid (Nl.left g.terms.length (g.terms.length + g.names.length) (stOf I C w5) < Nl.left g.terms.length (g.terms.length + g.names.length) (stOf I C wr)) := by
          show _ < _
          rw [e1, e2]
          exact Nat.lt_of_le_of_lt hle HLT.out
        clear c0 c1 c2 c3 c4 h5 HCA HB4 HSB S4 hb4 e1 e2 hle HLT
        go_wp2_with fail
        go_roundw
        case rel => exact ⟨st5, hA5⟩
        case measure => exact HM.out
end Go.Proofs.Ytdocbgfpnaiijaa

namespace Go.Proofs.Ytdocbgfpnaiijaa
open Go.RowKit Go.Conc

/-- are all of a list nothing? -/
noncomputable def Nl.all (g : Gr.Gm) (l : List Int) : Bool := Gr.good g && Nl.allIn (Nl.of g) l
/-- is a rule's right side? -/
noncomputable def Nl.rule (g : Gr.Gm) (k : Int) : Bool := decide (0 ≤ k ∧ k < g.rules.length) && Nl.all g (g.rules.getD k.toNat (0, [])).2

theorem Nl.of_len {g : Gr.Gm} (h : Gr.good g = true) : (Nl.of g).length = g.terms.length + g.names.length := by
  unfold Nl.of; rw [if_pos h, Nl.nulls_len]
theorem Nl.of_no {g : Gr.Gm} (h : Gr.good g = false) : Nl.of g = [] := by
  unfold Nl.of; rw [if_neg (by rw [h]; simp)]
theorem Nl.of_small (g : Gr.Gm) : (Nl.of g).length ≤ 80 := by
  cases h : Gr.good g
  · rw [Nl.of_no h]; simp
  · rw [Nl.of_len h]; have := (Nl.sizes_of h).1; omega

set_option maxRecDepth 100000 in
set_option maxHeartbeats 1600000 in
theorem nall_is (r : Bool) (g : Gr.Gm) (A : GA) (l : List Int) (ao : Option Addr) (c : Nat) (w : World) (hm : ∀ x ∈ g.rules, x.2.length ≤ maxLen) (h : GmAt w.heap.size w g A) (hl : IntsAt w.heap.size w ao l) (hll : l.length ≤ 4000) (hr : Nl.all g l = r) :
    Calls Try.prog 12 #[.agg (gmCells g A), .slice ao l.length c] w fun e w' => e = .returned (.bool r) ∧ Below w.heap.size w w' := by
  obtain ⟨ta, tc, na, nc, ra, rac⟩ := A
  have HO : Hid (∀ W : World, Below w.heap.size w W → Calls Try.prog 38 #[.agg (gmCells g ⟨ta, tc, na, nc, ra, rac⟩)] W fun e w' => ∃ ao c, e = .returned (.slice ao (Nl.of g).length c) ∧ Hid (BoolsAt w'.heap.size w' ao (Nl.of g)) ∧ Hid (Below W.heap.size W w')) := fun W hW => nof_is g _ W hm (h.next hW)
  have HL : Hid (IntsAt w.heap.size w ao l) := hl
  have HR : Hid _ := hr
  have hbW : Hid (Below w.heap.size w (w.alloc (Obj.cells #[.slice ta g.terms.length tc, .slice na g.names.length nc, .slice ra g.rules.length rac] 25))) := (Below.refl _ w).alloc (Nat.le_refl _) _
  clear h hl hr hm
  simp only [gmCells] at HO ⊢
  go_enter Try.func12, Try.ntmps12
  go_wp2_with (go_at_call 38; fail)
  refine Calls.mono (HO.out _ hbW.out) ?_
  rintro e w1 ⟨io, ic, rfl, hb, hb1⟩
  have HB1 : Hid _ := hbW.out.trans (hb1.out.mono hbW.out.size)
  clear hb1 hbW HO
  cases hg : Gr.good g
  · have e0 := Nl.of_no hg
    rw [e0, List.length_nil]
    have R : Hid (r = false) := by show _ = _; rw [← HR.out]; simp [Nl.all, hg]
    clear hb e0 HR
    go_wp2_with fail
    go_ret
    exact ⟨ret_bool R.out.symm, HB1.out⟩
  · have hlen := Nl.of_len hg
    have hsz := (Nl.sizes_of hg).1
    have hpos : (0 : Int) < ((Nl.of g).length : Int) := by rw [hlen]; omega
    have R : Hid (Nl.allIn (Nl.of g) l = r) := by show _ = _; rw [← HR.out]; simp [Nl.all, hg]
    have HA : Hid _ := allAre_is r (Nl.of g) l hll io ao ic c w1 hb.out (HL.out.later HB1.out).size R.out
    clear hb HR R hlen hsz
    generalize Nl.of g = bs at *
    have hd : decide ((0 : Int) < (bs.length : Int)) = true := decide_eq_true hpos
    go_wp2_with (go_at_call 39; refine Calls.mono HA.out ?_; rintro e w2 ⟨rfl, hb2⟩)
    go_ret
    exact ⟨rfl, HB1.out.trans (hb2.mono HB1.out.size)⟩

end Go.Proofs.Ytdocbgfpnaiijaa
