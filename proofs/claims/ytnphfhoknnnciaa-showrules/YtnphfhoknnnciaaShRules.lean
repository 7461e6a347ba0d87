/-
  The law ShowRules, walked: it returns true, of every grammar.
-/
import Derived.Test.YtnphfhoknnnciaaShWakes
import Derived.Test.YtnphfhoknnnciaaGrRefGood
import Derived.Test.YtnphfhoknnnciaaGrKeeps
import Derived.Test.YtnphfhoknnnciaaGrOpen
namespace Go.Proofs.Ytnphfhoknnnciaa.Sh
open Go.Proofs.Ytnphfhoknnnciaa.Gr
theorem name_le {g : Gm} {M : Nat} (ht : ∀ x ∈ g.terms, x.size ≤ M) (hn : ∀ x ∈ g.names, x.size ≤ M) (s : Int) : (name g s).1.size ≤ M := by
  have z : (⟨#[]⟩ : ByteArray).size = 0 := rfl
  have gd : ∀ (l : List ByteArray) (k : Nat), (∀ x ∈ l, x.size ≤ M) → (l.getD k ⟨#[]⟩).size ≤ M := fun l k hl => by
    rw [List.getD_eq_getElem?_getD]
    cases he : l[k]? with
    | none => simp [z]
    | some y => exact hl y (List.mem_of_getElem? he)
  unfold name
  split
  · exact gd _ _ ht
  · split
    · exact gd _ _ hn
    · simp [z]

theorem line_good {g : Gm} (h : good g = true) (k : Nat) (hk : k < g.rules.length) : line g k = (0, ruleT g g.rules[k]) := by
  unfold line
  rw [if_neg (by rw [h]; simp), if_pos (by omega), Int.toNat_natCast, List.getD_eq_getElem?_getD, List.getElem?_eq_getElem hk]; rfl
theorem line_bad {g : Gm} (h : good g = false) (i : Int) : line g i = (16, ⟨#[]⟩) := by
  unfold line; rw [if_pos h]
theorem text_bad {g : Gm} (h : good g = false) : text g = (16, ⟨#[]⟩) := by
  unfold text; rw [if_pos h]

/-- a rule's left side is no terminal -/
theorem left_not {g : Gm} (h : good g = true) (r : Rl) (hr : r ∈ g.rules) : isT g r.1 = false := by
  obtain ⟨k, hk, rfl⟩ := List.getElem_of_mem hr
  have := (each_get (good_parts h).2.2.2.1 k hk).1
  simp only [fits, isN, Bool.and_eq_true, decide_eq_true_eq] at this
  exact decide_eq_false (by omega)
theorem ruleT_name {g : Gm} (h : good g = true) (r : Rl) (hr : r ∈ g.rules) : ruleT g r = symsT g ((name g r.1).1 ++ ⟨#[32, 61]⟩) r.2 := by
  have := left_not h r hr
  unfold ruleT symT
  rw [this]; rfl
end Go.Proofs.Ytnphfhoknnnciaa.Sh

namespace Go.Proofs.Ytnphfhoknnnciaa
open Go.RowKit

theorem blk_on {w w' : World} {b : Nat} {o : Obj} (h : w.heap[b]? = some o) (hb : Below w.heap.size w w') : w'.heap[b]? = some o := by
  rw [hb.block _ (Array.getElem?_eq_some_iff.1 h).1]; exact h

set_option maxRecDepth 100000 in
set_option maxHeartbeats 6400000 in
theorem showRules_large (g : Gr.Gm) (A : GA) (w : World) (h : GmAt w.heap.size w g A) (hm : ∀ r ∈ g.rules, r.2.length ≤ maxLen) (hl : Gr.large g = true) :
    Calls Try.prog 6 #[.agg (gmCells g A)] w fun e w' => e = .returned (.bool true) ∧ Below w.heap.size w w' := by
  obtain ⟨ta, tc, na, nc, ra, rc⟩ := A
  have hbW : Hid (Below w.heap.size w (w.alloc (Obj.cells #[.slice ta g.terms.length tc, .slice na g.names.length nc, .slice ra g.rules.length rc] 25))) := (Below.refl _ w).alloc (Nat.le_refl _) _
  have HL1 : Hid (∀ (W : World), Below w.heap.size w W → _) := fun W hW => large_is true g ⟨ta, tc, na, nc, ra, rc⟩ W hm (h.later hW).size hl
  clear hl h hm
  simp only [gmCells] at HL1 ⊢
  go_enter Try.func6, Try.ntmps6
  go_wp2_with (go_at_call 8; fail)
  refine (HL1.out _ hbW.out).mono ?_
  rintro e w1 ⟨rfl, hb1⟩
  have HB1 : Hid (Below w.heap.size w w1) := hbW.out.trans (hb1.mono hbW.out.size)
  go_wp2_with (go_at_call 19; fail)
  refine (swakes_any _).mono ?_
  rintro e w3 ⟨rfl, hb3⟩
  go_wp2_with fail
  go_ret
  exact ⟨rfl, HB1.out.trans (hb3.mono HB1.out.size)⟩

set_option maxRecDepth 100000 in
set_option maxHeartbeats 6400000 in
theorem showRules_good (g : Gr.Gm) (A : GA) (w : World) (h : GmAt w.heap.size w g A) (hm : ∀ r ∈ g.rules, r.2.length ≤ maxLen) (hl : Gr.large g = false) (hg : Gr.good g = true) :
    Calls Try.prog 6 #[.agg (gmCells g A)] w fun e w' => e = .returned (.bool true) ∧ Below w.heap.size w w' := by
  obtain ⟨ta, tc, na, nc, ra, rc⟩ := A
  have HG : Hid (GmAt w.heap.size w g ⟨ta, tc, na, nc, ra, rc⟩) := h
  have hbW : Hid (Below w.heap.size w (w.alloc (Obj.cells #[.slice ta g.terms.length tc, .slice na g.names.length nc, .slice ra g.rules.length rc] 25))) := (Below.refl _ w).alloc (Nat.le_refl _) _
  have b0 : Hid ((w.alloc (Obj.cells #[.slice ta g.terms.length tc, .slice na g.names.length nc, .slice ra g.rules.length rc] 25)).heap[w.heap.size]? = some (.cells #[.slice ta g.terms.length tc, .slice na g.names.length nc, .slice ra g.rules.length rc] 25 (0, 0))) := heap_alloc_new w _
  have HL1 : Hid (∀ (W : World), Below w.heap.size w W → _) := fun W hW => large_is false g ⟨ta, tc, na, nc, ra, rc⟩ W hm (h.later hW).size hl
  obtain ⟨l1, l2, l3, l4, l5, l6⟩ := Gr.large_no hl
  have hnz : ∀ s, (Gr.name g s).1.size ≤ 4000 := Sh.name_le (fun x hx => by have := l4 x hx; omega) (fun x hx => by have := l5 x hx; omega)
  have HNZ : Hid _ := hnz
  have HNM : Hid (∀ (s : Int) (W : World), Below w.heap.size w W → Calls Try.prog 13 #[.agg (gmCells g ⟨ta, tc, na, nc, ra, rc⟩), .int .i64 s] W fun e w' => e = .returned (.tuple #[.string (Gr.name g s).1, .bool (Gr.name g s).2]) ∧ Below W.heap.size W w') := fun s W hW => name_is _ _ g _ s W ⟨l1, l2⟩ (fun s h => by have := l4 s h; omega) (fun s h => by have := l5 s h; omega) (h.later hW).size rfl
  have HTM : Hid (∀ (s : Int) (W : World), Calls Try.prog 18 #[.agg (gmCells g ⟨ta, tc, na, nc, ra, rc⟩), .int .i64 s] W fun e w' => e = .returned (.bool (Gr.isT g s)) ∧ Below W.heap.size W w') := fun s W => term_is _ g _ s W rfl
  have HRG : Hid (∀ (W : World), Below w.heap.size w W → _) := fun W hW => refGood_any true g ⟨ta, tc, na, nc, ra, rc⟩ W hm (h.later hW).size ((Gr.refGood_is g).trans hg)
  obtain ⟨tn, tx, HTX⟩ : ∃ tn tx, Hid (Sh.text g = (tn, tx)) := ⟨_, _, rfl⟩
  have HST : Hid (∀ (W : World), Below w.heap.size w W → _) := fun W hW => showText_is g ⟨ta, tc, na, nc, ra, rc⟩ tn tx W hm (h.later hW).size HTX.out
  have HSR : Hid (∀ (k : Nat) (hk : k < g.rules.length) (W : World), Below w.heap.size w W → Calls Try.prog 22 #[.agg (gmCells g ⟨ta, tc, na, nc, ra, rc⟩), .int .i64 (k : Int)] W fun e w' => e = .returned (.tuple #[.string (Sh.ruleT g g.rules[k]), .bool true]) ∧ Below W.heap.size W w') := fun k hk W hW => showRule_is g _ k 0 _ W hm (h.later hW).size (Sh.line_good hg k hk)
  have HRN : Hid (∀ (k : Nat) (hk : k < g.rules.length), Sh.ruleT g g.rules[k] = Sh.symsT g ((Gr.name g g.rules[k].1).1 ++ ⟨#[32, 61]⟩) g.rules[k].2) := fun k hk => Sh.ruleT_name hg _ (List.getElem_mem hk)
  have H8 : Hid (∀ x ∈ g.rules, x.2.length ≤ 8) := fits_right (Gr.good_parts hg).2.2.2.1
  have HSZ : Hid (∀ k, (Sh.allT g (g.rules.take k)).size ≤ k * 40003) := Sh.allT_size hg g.rules H8.out
  have HRZ : Hid (∀ r ∈ g.rules, (Sh.ruleT g r).size ≤ 40000) := fun r hr => Sh.ruleT_size hg (H8.out r hr)
  have HTE : Hid ((if (Sh.allT g g.rules).size ≤ 2000 then (0, Sh.allT g g.rules) else (14, ⟨#[]⟩) : Int × ByteArray) = (tn, tx)) := by
    have := HTX.out; unfold Sh.text at this; rw [if_neg (by rw [hg]; simp)] at this; exact this
  have H6 : Hid _ := l6
  simp only [gmCells] at HL1 HNM HTM HRG HST HSR ⊢
  clear hl hg h hm hnz l4 l5 l6 HTX
  go_enter Try.func6, Try.ntmps6
  go_wp2_with (go_at_call 8; fail)
  generalize (w.alloc (Obj.cells #[.slice ta g.terms.length tc, .slice na g.names.length nc, .slice ra g.rules.length rc] 25)) = W at *
  refine (HL1.out _ hbW.out).mono ?_
  rintro e w1 ⟨rfl, hb1⟩
  have k1 : Hid _ := blk_on b0.out hb1
  have HB1 : Hid (Below w.heap.size w w1) := hbW.out.trans (hb1.mono hbW.out.size)
  clear hb1 b0 hbW HL1
  obtain ⟨g0, g1, g2, _⟩ := cells_three_z k1.out
  go_wp2_with (go_at_call 20; fail)
  refine (HST.out _ HB1.out).mono ?_
  rintro e w2 ⟨rfl, hb2⟩
  have k2 : Hid _ := blk_on k1.out hb2
  have HB2 : Hid (Below w.heap.size w w2) := HB1.out.trans (hb2.mono HB1.out.size)
  have hz2 : w.heap.size < w2.heap.size := (Array.getElem?_eq_some_iff.1 k2.out).1
  clear hb2 k1 HB1 HST g0 g1 g2
  go_wp2_with fail
  go_loopw [5, 6] (fun v i wr => ∃ k : Nat, k ≤ g.rules.length ∧ Hid (v = .string (Sh.allT g (g.rules.take k))) ∧ i = .int .i64 k ∧ Hid (Below w2.heap.size w2 wr)) (fun _ i _ => g.rules.length - (intOf i).toNat)
  case atStart => exact ⟨0, Nat.zero_le _, rfl, rfl, Below.refl _ _⟩
  case round =>
    obtain ⟨k, hk, hv, rfl, hb⟩ := hrel
    have hszk := HSZ.out k
    have e := hv.out
    subst e
    have HBr : Hid (Below w.heap.size w wr) := HB2.out.trans (hb.out.mono HB2.out.size)
    obtain ⟨g0, g1, g2, _⟩ := cells_three_z (blk_on k2.out hb.out)
    by_cases hlt : k < g.rules.length
    · have hki : (k : Int) < (g.rules.length : Int) := by omega
      obtain ⟨rb, ro, yo, yc, hra, _, _, y0, y1, yI, yl1, yl2⟩ := HG.out.rules k hlt
      simp only at hra
      subst hra
      have HY : Hid (IntsAt w.heap.size w yo g.rules[k].2) := yI
      have h6k := H6.out _ (List.getElem_mem hlt)
      have HSk : Hid (∀ W', Below w.heap.size w W' → _) := fun W' hW' => HSR.out k hlt W' hW'
      have hrz := HRZ.out _ (List.getElem_mem hlt)
      have HRk : Hid _ := HRN.out k hlt
      have HSP : Hid _ := Sh.allT_step g g.rules k hlt
      clear yI
      generalize g.rules[k] = y at *
      obtain ⟨yl, yr⟩ := y
      simp only at y0 y1 HY h6k yl1 yl2 hrz HRk HSP
      have HYC : Hid (w.cell? ⟨rb, ro + k * 2, none⟩ = some (.int .i64 yl) ∧ w.cell? ⟨rb, ro + k * 2 + 1, none⟩ = some (.slice yo yr.length yc)) := ⟨y0, y1⟩
      clear y0 y1
      go_wp2_with (go_at_call 22; fail)
      refine (HSk.out _ HBr.out).mono ?_
      rintro e w3 ⟨rfl, hb3⟩
      have hB3 : Hid (Below w2.heap.size w2 w3) := hb.out.trans (hb3.mono hb.out.size)
      have HB3 : Hid (Below w.heap.size w w3) := HBr.out.trans (hb3.mono HBr.out.size)
      clear hb3 hb HBr g0 g1 g2 HSk
      obtain ⟨g0, g1, g2, _⟩ := cells_three_z (blk_on k2.out hB3.out)
      go_wp2_with (go_at_call 17; fail)
      refine (HRG.out _ HB3.out).mono ?_
      rintro e w4 ⟨rfl, hb4⟩
      have hB4 : Hid (Below w2.heap.size w2 w4) := hB3.out.trans (hb4.mono hB3.out.size)
      have HB4 : Hid (Below w.heap.size w w4) := HB3.out.trans (hb4.mono HB3.out.size)
      clear hb4 hB3 HB3 g0 g1 g2
      obtain ⟨g0, g1, g2, _⟩ := cells_three_z (blk_on k2.out hB4.out)
      have y0 := cell_later HB4.out HYC.out.1
      have G0 : ∀ p : Later w4, p.w.cell? _ = some _ := Later.cell g0
      have G1 : ∀ p : Later w4, p.w.cell? _ = some _ := Later.cell g1
      have G2 : ∀ p : Later w4, p.w.cell? _ = some _ := Later.cell g2
      have Y0 : ∀ p : Later w4, p.w.cell? _ = some _ := Later.cell y0
      have HN1 : Hid (∀ p : Later w4, _) := fun p => Calls.later_of (HNM.out yl p.w (HB4.out.trans (p.h.mono HB4.out.size)))
      have hns := HNZ.out yl
      generalize Gr.name g yl = nm at *
      obtain ⟨nx, nk⟩ := nm
      simp only at hns HN1 HRk
      go_upto_region 11 with fail
      refine wp_region_later (by kernel_rfl) (by kernel_rfl) ?_
      repeat (quiet_step (first | (go_at_call 13; exact HN1.out _)))
      refine wpQuiet_nil ?_
      intro _ hw'
      obtain ⟨pq, hw''⟩ := hw'
      subst hw''
      have hB5 : Hid (Below w2.heap.size w2 pq.w) := hB4.out.trans (pq.h.mono hB4.out.size)
      clear G0 G1 G2 Y0 HN1 g0 g1 g2 y0 hB4
      go_wp2_with fail
      have hsz0 : ∀ m, (Sh.symsT g (nx ++ ⟨#[32, 61]⟩) (yr.take m)).size ≤ 4002 + m * 4003 := fun m => by
        have := Sh.symsT_size g (nx ++ ⟨#[32, 61]⟩) yr HNZ.out m
        rw [Sh.size_app, show (⟨#[32, 61]⟩ : ByteArray).size = 2 from rfl] at this
        omega
      have HS0 : Hid _ := hsz0
      clear hsz0
      go_loopw [9, 11] (fun v i wq => ∃ m : Nat, m ≤ yr.length ∧ v = .string (Sh.symsT g (nx ++ ⟨#[32, 61]⟩) (yr.take m)) ∧ i = .int .i64 m ∧ Hid (Below w2.heap.size w2 wq)) (fun _ i _ => yr.length - (intOf i).toNat)
      case atStart => exact ⟨0, Nat.zero_le _, rfl, rfl, hB5⟩
      case round =>
        obtain ⟨m, hmy, rfl, rfl, hb⟩ := hrel
        clear hB5 HB4
        have HBr : Hid (Below w.heap.size w wr) := HB2.out.trans (hb.out.mono HB2.out.size)
        obtain ⟨g0, g1, g2, _⟩ := cells_three_z (blk_on k2.out hb.out)
        have y1 := cell_later HBr.out HYC.out.2
        have hszm := HS0.out m
        by_cases hml : m < yr.length
        · have hmi : (m : Int) < (yr.length : Int) := by omega
          obtain ⟨sb, so, rfl, _, _, s0⟩ := IntsAt.get HY.out m hml
          replace s0 := cell_later HBr.out s0
          have HSP2 : Hid _ := Sh.symsT_step g (nx ++ ⟨#[32, 61]⟩) yr m hml
          generalize yr[m] = sy at *
          have hns2 := HNZ.out sy
          generalize Sh.symsT g (nx ++ ⟨#[32, 61]⟩) (yr.take m) = acc at *
          have G0 : ∀ p : Later wr, p.w.cell? _ = some _ := Later.cell g0
          have G1 : ∀ p : Later wr, p.w.cell? _ = some _ := Later.cell g1
          have G2 : ∀ p : Later wr, p.w.cell? _ = some _ := Later.cell g2
          have Y1 : ∀ p : Later wr, p.w.cell? _ = some _ := Later.cell y1
          have S0 : ∀ p : Later wr, p.w.cell? _ = some _ := Later.cell s0
          have HN2 : Hid (∀ p : Later wr, _) := fun p => Calls.later_of (HNM.out sy p.w (HBr.out.trans (p.h.mono HBr.out.size)))
          have HT2 : Hid (∀ W : World, _) := fun W => HTM.out sy W
          have HSY : Hid (Sh.symT g sy = if Gr.isT g sy then ⟨#[39]⟩ ++ (Gr.name g sy).1 ++ ⟨#[39]⟩ else (Gr.name g sy).1) := by show _ = _; rfl
          generalize Gr.name g sy = nm2 at *
          obtain ⟨nx2, nk2⟩ := nm2
          simp only at hns2 HN2 HSY
          go_upto_region 16 with fail
          refine wp_region_later (by kernel_rfl) (by kernel_rfl) ?_
          repeat (quiet_step (first | (go_at_call 13; exact HN2.out _)))
          refine wpQuiet_nil ?_
          intro _ hw'
          obtain ⟨p6, hw''⟩ := hw'
          subst hw''
          have hb6 : Hid (Below w2.heap.size w2 p6.w) := hb.out.trans (p6.h.mono hb.out.size)
          clear g0 g1 g2 y1 s0
          have g0 := G0 p6
          have g1 := G1 p6
          have g2 := G2 p6
          have y1 := Y1 p6
          have s0 := S0 p6
          clear G0 G1 G2 Y1 S0 HN2
          generalize p6.w = V6 at *
          clear p6
          have G0 : ∀ p : Later V6, p.w.cell? _ = some _ := Later.cell g0
          have G1 : ∀ p : Later V6, p.w.cell? _ = some _ := Later.cell g1
          have G2 : ∀ p : Later V6, p.w.cell? _ = some _ := Later.cell g2
          have Y1 : ∀ p : Later V6, p.w.cell? _ = some _ := Later.cell y1
          have S0 : ∀ p : Later V6, p.w.cell? _ = some _ := Later.cell s0
          have HT3 : Hid (∀ p : Later V6, _) := fun p => Calls.later_of (HT2.out p.w)
          generalize Gr.isT g sy = it at *
          clear HT2
          cases it
          · have HSY2 : Hid (Sh.symT g sy = nx2) := HSY.out
            rw [HSY2.out] at HSP2
            go_upto_region 17 with fail
            refine wp_region_later (by kernel_rfl) (by kernel_rfl) ?_
            repeat (quiet_step (first | (go_at_call 18; exact HT3.out _)))
            refine wpQuiet_nil ?_
            intro _ hw'
            obtain ⟨p7, hw''⟩ := hw'
            subst hw''
            have hb7 : Hid (Below w2.heap.size w2 p7.w) := hb6.out.trans (p7.h.mono hb6.out.size)
            clear G0 G1 G2 Y1 S0 HT3 g0 g1 g2 y1 s0
            go_wp2_with fail
            go_roundw
            case rel => exact ⟨m + 1, by omega, by rw [HSP2.out], by go_num, hb7⟩
            case measure => simp [intOf]; omega
          · have HSY2 : Hid (Sh.symT g sy = ⟨#[39]⟩ ++ nx2 ++ ⟨#[39]⟩) := HSY.out
            rw [HSY2.out] at HSP2
            go_upto_region 17 with fail
            refine wp_region_later (by kernel_rfl) (by kernel_rfl) ?_
            repeat (quiet_step (first | (go_at_call 18; exact HT3.out _)))
            refine wpQuiet_nil ?_
            intro _ hw'
            obtain ⟨p7, hw''⟩ := hw'
            subst hw''
            have hb7 : Hid (Below w2.heap.size w2 p7.w) := hb6.out.trans (p7.h.mono hb6.out.size)
            clear G0 G1 G2 Y1 S0 HT3 g0 g1 g2 y1 s0
            go_wp2_with fail
            go_roundw
            case rel => exact ⟨m + 1, by omega, by rw [HSP2.out], by go_num, hb7⟩
            case measure => simp [intOf]; omega
        · have HKE : Hid (yr.take m = yr) := by show _ = _; rw [List.take_of_length_le (by omega)]
          rw [HKE.out] at hszm ⊢
          rw [HRk.out] at HSP hrz ⊢
          have HSP' : Hid (Sh.allT g (g.rules.take (k + 1)) = Sh.allT g (g.rules.take k) ++ (Sh.symsT g (nx ++ ⟨#[32, 61]⟩) yr ++ ⟨#[32, 59, 10]⟩)) := HSP.out
          clear HSP
          generalize Sh.symsT g (nx ++ ⟨#[32, 61]⟩) yr = want at *
          generalize Sh.allT g (g.rules.take k) = acc at *
          go_wp2_with fail
          go_roundw
          case rel => exact ⟨k + 1, by omega, by show _ = _; rw [HSP'.out], by go_num, hb⟩
          case measure => simp [intOf]; omega
    · have HK : Hid (g.rules.take k = g.rules) := by show _ = _; rw [List.take_of_length_le (by omega)]
      rw [HK.out] at hszk ⊢
      clear HK
      go_wp2_with (go_at_call 17; fail)
      refine (HRG.out _ HBr.out).mono ?_
      rintro e w4 ⟨rfl, hb4⟩
      have HB4 : Hid (Below w.heap.size w w4) := HBr.out.trans (hb4.mono HBr.out.size)
      generalize Sh.allT g g.rules = tx' at *
      by_cases h2 : tx'.size ≤ 2000
      · have HNS : Hid (tn = 0 ∧ tx = tx') := by
          have e := HTE.out
          rw [if_pos h2] at e
          cases e
          exact ⟨rfl, rfl⟩
        obtain ⟨rfl, rfl⟩ := HNS.out
        have h2i : decide ((2000 : Int) < (tx.size : Int)) = false := decide_eq_false (by omega)
        go_wp2_with (go_at_call 19; fail)
        refine (swakes_any _).mono ?_
        rintro e w5 ⟨rfl, hb5⟩
        go_wp2_with fail
        go_ret
        exact ⟨rfl, HB4.out.trans (hb5.mono HB4.out.size)⟩
      · have HNS : Hid (tn = 14 ∧ tx = ⟨#[]⟩) := by
          have e := HTE.out
          rw [if_neg h2] at e
          cases e
          exact ⟨rfl, rfl⟩
        obtain ⟨rfl, rfl⟩ := HNS.out
        have h2i : (2000 : Int) < (tx'.size : Int) := by omega
        go_wp2_with (go_at_call 19; fail)
        refine (swakes_any _).mono ?_
        rintro e w5 ⟨rfl, hb5⟩
        go_wp2_with fail
        go_ret
        exact ⟨rfl, HB4.out.trans (hb5.mono HB4.out.size)⟩

set_option maxRecDepth 100000 in
set_option maxHeartbeats 6400000 in
theorem showRules_bad (g : Gr.Gm) (A : GA) (w : World) (h : GmAt w.heap.size w g A) (hm : ∀ r ∈ g.rules, r.2.length ≤ maxLen) (hl : Gr.large g = false) (hg : Gr.good g = false) :
    Calls Try.prog 6 #[.agg (gmCells g A)] w fun e w' => e = .returned (.bool true) ∧ Below w.heap.size w w' := by
  obtain ⟨ta, tc, na, nc, ra, rc⟩ := A
  have HG : Hid (GmAt w.heap.size w g ⟨ta, tc, na, nc, ra, rc⟩) := h
  have hbW : Hid (Below w.heap.size w (w.alloc (Obj.cells #[.slice ta g.terms.length tc, .slice na g.names.length nc, .slice ra g.rules.length rc] 25))) := (Below.refl _ w).alloc (Nat.le_refl _) _
  have b0 : Hid ((w.alloc (Obj.cells #[.slice ta g.terms.length tc, .slice na g.names.length nc, .slice ra g.rules.length rc] 25)).heap[w.heap.size]? = some (.cells #[.slice ta g.terms.length tc, .slice na g.names.length nc, .slice ra g.rules.length rc] 25 (0, 0))) := heap_alloc_new w _
  have HL1 : Hid (∀ (W : World), Below w.heap.size w W → _) := fun W hW => large_is false g ⟨ta, tc, na, nc, ra, rc⟩ W hm (h.later hW).size hl
  obtain ⟨l1, l2, l3, l4, l5, l6⟩ := Gr.large_no hl
  have hnz : ∀ s, (Gr.name g s).1.size ≤ 4000 := Sh.name_le (fun x hx => by have := l4 x hx; omega) (fun x hx => by have := l5 x hx; omega)
  have HNZ : Hid _ := hnz
  have HNM : Hid (∀ (s : Int) (W : World), Below w.heap.size w W → Calls Try.prog 13 #[.agg (gmCells g ⟨ta, tc, na, nc, ra, rc⟩), .int .i64 s] W fun e w' => e = .returned (.tuple #[.string (Gr.name g s).1, .bool (Gr.name g s).2]) ∧ Below W.heap.size W w') := fun s W hW => name_is _ _ g _ s W ⟨l1, l2⟩ (fun s h => by have := l4 s h; omega) (fun s h => by have := l5 s h; omega) (h.later hW).size rfl
  have HTM : Hid (∀ (s : Int) (W : World), Calls Try.prog 18 #[.agg (gmCells g ⟨ta, tc, na, nc, ra, rc⟩), .int .i64 s] W fun e w' => e = .returned (.bool (Gr.isT g s)) ∧ Below W.heap.size W w') := fun s W => term_is _ g _ s W rfl
  have HRG : Hid (∀ (W : World), Below w.heap.size w W → _) := fun W hW => refGood_any false g ⟨ta, tc, na, nc, ra, rc⟩ W hm (h.later hW).size ((Gr.refGood_is g).trans hg)
  obtain ⟨tn, tx, HTX⟩ : ∃ tn tx, Hid (Sh.text g = (tn, tx)) := ⟨_, _, rfl⟩
  have HST : Hid (∀ (W : World), Below w.heap.size w W → _) := fun W hW => showText_is g ⟨ta, tc, na, nc, ra, rc⟩ tn tx W hm (h.later hW).size HTX.out
  have HSR : Hid (∀ (k : Nat) (_ : k < g.rules.length) (W : World), Below w.heap.size w W → Calls Try.prog 22 #[.agg (gmCells g ⟨ta, tc, na, nc, ra, rc⟩), .int .i64 (k : Int)] W fun e w' => e = .returned (.tuple #[.string ⟨#[]⟩, .bool false]) ∧ Below W.heap.size W w') := fun k hk W hW => showRule_is g _ k 16 _ W hm (h.later hW).size (Sh.line_bad hg k)
  have HTE : Hid (tn = 16 ∧ tx = ⟨#[]⟩) := by
    have := HTX.out; rw [Sh.text_bad hg] at this; cases this; exact ⟨rfl, rfl⟩
  obtain ⟨rfl, rfl⟩ := HTE.out
  have H6 : Hid _ := l6
  simp only [gmCells] at HL1 HNM HTM HRG HST HSR ⊢
  clear hl hg h hm hnz l4 l5 l6 HTX
  go_enter Try.func6, Try.ntmps6
  go_wp2_with (go_at_call 8; fail)
  generalize (w.alloc (Obj.cells #[.slice ta g.terms.length tc, .slice na g.names.length nc, .slice ra g.rules.length rc] 25)) = W at *
  refine (HL1.out _ hbW.out).mono ?_
  rintro e w1 ⟨rfl, hb1⟩
  have k1 : Hid _ := blk_on b0.out hb1
  have HB1 : Hid (Below w.heap.size w w1) := hbW.out.trans (hb1.mono hbW.out.size)
  clear hb1 b0 hbW HL1
  obtain ⟨g0, g1, g2, _⟩ := cells_three_z k1.out
  go_wp2_with (go_at_call 20; fail)
  refine (HST.out _ HB1.out).mono ?_
  rintro e w2 ⟨rfl, hb2⟩
  have k2 : Hid _ := blk_on k1.out hb2
  have HB2 : Hid (Below w.heap.size w w2) := HB1.out.trans (hb2.mono HB1.out.size)
  have hz2 : w.heap.size < w2.heap.size := (Array.getElem?_eq_some_iff.1 k2.out).1
  clear hb2 k1 HB1 HST g0 g1 g2
  go_wp2_with fail
  go_loopw [5, 6] (fun v i wr => ∃ k : Nat, k ≤ g.rules.length ∧ (∃ al : ByteArray, v = .string al ∧ al.size ≤ k * 3) ∧ i = .int .i64 k ∧ Hid (Below w2.heap.size w2 wr)) (fun _ i _ => g.rules.length - (intOf i).toNat)
  case atStart => exact ⟨0, Nat.zero_le _, ⟨⟨#[]⟩, rfl, Nat.zero_le _⟩, rfl, Below.refl _ _⟩
  case round =>
    obtain ⟨k, hk, hv, rfl, hb⟩ := hrel
    obtain ⟨al, rfl, hal⟩ := hv
    have HBr : Hid (Below w.heap.size w wr) := HB2.out.trans (hb.out.mono HB2.out.size)
    obtain ⟨g0, g1, g2, _⟩ := cells_three_z (blk_on k2.out hb.out)
    by_cases hlt : k < g.rules.length
    · have hki : (k : Int) < (g.rules.length : Int) := by omega
      obtain ⟨rb, ro, yo, yc, hra, _, _, y0, y1, yI, yl1, yl2⟩ := HG.out.rules k hlt
      simp only at hra
      subst hra
      have HY : Hid (IntsAt w.heap.size w yo g.rules[k].2) := yI
      have h6k := H6.out _ (List.getElem_mem hlt)
      have HSk : Hid (∀ W', Below w.heap.size w W' → _) := fun W' hW' => HSR.out k hlt W' hW'
      clear yI
      generalize g.rules[k] = y at *
      obtain ⟨yl, yr⟩ := y
      simp only at y0 y1 HY h6k yl1 yl2
      have HYC : Hid (w.cell? ⟨rb, ro + k * 2, none⟩ = some (.int .i64 yl) ∧ w.cell? ⟨rb, ro + k * 2 + 1, none⟩ = some (.slice yo yr.length yc)) := ⟨y0, y1⟩
      clear y0 y1
      go_wp2_with (go_at_call 22; fail)
      refine (HSk.out _ HBr.out).mono ?_
      rintro e w3 ⟨rfl, hb3⟩
      have hB3 : Hid (Below w2.heap.size w2 w3) := hb.out.trans (hb3.mono hb.out.size)
      have HB3 : Hid (Below w.heap.size w w3) := HBr.out.trans (hb3.mono HBr.out.size)
      clear hb3 hb HBr g0 g1 g2 HSk
      obtain ⟨g0, g1, g2, _⟩ := cells_three_z (blk_on k2.out hB3.out)
      go_wp2_with (go_at_call 17; fail)
      refine (HRG.out _ HB3.out).mono ?_
      rintro e w4 ⟨rfl, hb4⟩
      have hB4 : Hid (Below w2.heap.size w2 w4) := hB3.out.trans (hb4.mono hB3.out.size)
      have HB4 : Hid (Below w.heap.size w w4) := HB3.out.trans (hb4.mono HB3.out.size)
      clear hb4 hB3 HB3 g0 g1 g2
      obtain ⟨g0, g1, g2, _⟩ := cells_three_z (blk_on k2.out hB4.out)
      have y0 := cell_later HB4.out HYC.out.1
      have G0 : ∀ p : Later w4, p.w.cell? _ = some _ := Later.cell g0
      have G1 : ∀ p : Later w4, p.w.cell? _ = some _ := Later.cell g1
      have G2 : ∀ p : Later w4, p.w.cell? _ = some _ := Later.cell g2
      have Y0 : ∀ p : Later w4, p.w.cell? _ = some _ := Later.cell y0
      have HN1 : Hid (∀ p : Later w4, _) := fun p => Calls.later_of (HNM.out yl p.w (HB4.out.trans (p.h.mono HB4.out.size)))
      have hns := HNZ.out yl
      generalize Gr.name g yl = nm at *
      obtain ⟨nx, nk⟩ := nm
      simp only at hns HN1
      go_upto_region 11 with fail
      refine wp_region_later (by kernel_rfl) (by kernel_rfl) ?_
      repeat (quiet_step (first | (go_at_call 13; exact HN1.out _)))
      refine wpQuiet_nil ?_
      intro _ hw'
      obtain ⟨pq, hw''⟩ := hw'
      subst hw''
      have hB5 : Hid (Below w2.heap.size w2 pq.w) := hB4.out.trans (pq.h.mono hB4.out.size)
      clear G0 G1 G2 Y0 HN1 g0 g1 g2 y0 hB4
      go_wp2_with fail
      have hsz0 : ∀ m, (Sh.symsT g (nx ++ ⟨#[32, 61]⟩) (yr.take m)).size ≤ 4002 + m * 4003 := fun m => by
        have := Sh.symsT_size g (nx ++ ⟨#[32, 61]⟩) yr HNZ.out m
        rw [Sh.size_app, show (⟨#[32, 61]⟩ : ByteArray).size = 2 from rfl] at this
        omega
      have HS0 : Hid _ := hsz0
      clear hsz0
      go_loopw [9, 11] (fun v i wq => ∃ m : Nat, m ≤ yr.length ∧ v = .string (Sh.symsT g (nx ++ ⟨#[32, 61]⟩) (yr.take m)) ∧ i = .int .i64 m ∧ Hid (Below w2.heap.size w2 wq)) (fun _ i _ => yr.length - (intOf i).toNat)
      case atStart => exact ⟨0, Nat.zero_le _, rfl, rfl, hB5⟩
      case round =>
        obtain ⟨m, hmy, rfl, rfl, hb⟩ := hrel
        clear hB5 HB4
        have HBr : Hid (Below w.heap.size w wr) := HB2.out.trans (hb.out.mono HB2.out.size)
        obtain ⟨g0, g1, g2, _⟩ := cells_three_z (blk_on k2.out hb.out)
        have y1 := cell_later HBr.out HYC.out.2
        have hszm := HS0.out m
        by_cases hml : m < yr.length
        · have hmi : (m : Int) < (yr.length : Int) := by omega
          obtain ⟨sb, so, rfl, _, _, s0⟩ := IntsAt.get HY.out m hml
          replace s0 := cell_later HBr.out s0
          have HSP2 : Hid _ := Sh.symsT_step g (nx ++ ⟨#[32, 61]⟩) yr m hml
          generalize yr[m] = sy at *
          have hns2 := HNZ.out sy
          generalize Sh.symsT g (nx ++ ⟨#[32, 61]⟩) (yr.take m) = acc at *
          have G0 : ∀ p : Later wr, p.w.cell? _ = some _ := Later.cell g0
          have G1 : ∀ p : Later wr, p.w.cell? _ = some _ := Later.cell g1
          have G2 : ∀ p : Later wr, p.w.cell? _ = some _ := Later.cell g2
          have Y1 : ∀ p : Later wr, p.w.cell? _ = some _ := Later.cell y1
          have S0 : ∀ p : Later wr, p.w.cell? _ = some _ := Later.cell s0
          have HN2 : Hid (∀ p : Later wr, _) := fun p => Calls.later_of (HNM.out sy p.w (HBr.out.trans (p.h.mono HBr.out.size)))
          have HT2 : Hid (∀ W : World, _) := fun W => HTM.out sy W
          have HSY : Hid (Sh.symT g sy = if Gr.isT g sy then ⟨#[39]⟩ ++ (Gr.name g sy).1 ++ ⟨#[39]⟩ else (Gr.name g sy).1) := by show _ = _; rfl
          generalize Gr.name g sy = nm2 at *
          obtain ⟨nx2, nk2⟩ := nm2
          simp only at hns2 HN2 HSY
          go_upto_region 16 with fail
          refine wp_region_later (by kernel_rfl) (by kernel_rfl) ?_
          repeat (quiet_step (first | (go_at_call 13; exact HN2.out _)))
          refine wpQuiet_nil ?_
          intro _ hw'
          obtain ⟨p6, hw''⟩ := hw'
          subst hw''
          have hb6 : Hid (Below w2.heap.size w2 p6.w) := hb.out.trans (p6.h.mono hb.out.size)
          clear g0 g1 g2 y1 s0
          have g0 := G0 p6
          have g1 := G1 p6
          have g2 := G2 p6
          have y1 := Y1 p6
          have s0 := S0 p6
          clear G0 G1 G2 Y1 S0 HN2
          generalize p6.w = V6 at *
          clear p6
          have G0 : ∀ p : Later V6, p.w.cell? _ = some _ := Later.cell g0
          have G1 : ∀ p : Later V6, p.w.cell? _ = some _ := Later.cell g1
          have G2 : ∀ p : Later V6, p.w.cell? _ = some _ := Later.cell g2
          have Y1 : ∀ p : Later V6, p.w.cell? _ = some _ := Later.cell y1
          have S0 : ∀ p : Later V6, p.w.cell? _ = some _ := Later.cell s0
          have HT3 : Hid (∀ p : Later V6, _) := fun p => Calls.later_of (HT2.out p.w)
          generalize Gr.isT g sy = it at *
          clear HT2
          cases it
          · have HSY2 : Hid (Sh.symT g sy = nx2) := HSY.out
            rw [HSY2.out] at HSP2
            go_upto_region 17 with fail
            refine wp_region_later (by kernel_rfl) (by kernel_rfl) ?_
            repeat (quiet_step (first | (go_at_call 18; exact HT3.out _)))
            refine wpQuiet_nil ?_
            intro _ hw'
            obtain ⟨p7, hw''⟩ := hw'
            subst hw''
            have hb7 : Hid (Below w2.heap.size w2 p7.w) := hb6.out.trans (p7.h.mono hb6.out.size)
            clear G0 G1 G2 Y1 S0 HT3 g0 g1 g2 y1 s0
            go_wp2_with fail
            go_roundw
            case rel => exact ⟨m + 1, by omega, by rw [HSP2.out], by go_num, hb7⟩
            case measure => simp [intOf]; omega
          · have HSY2 : Hid (Sh.symT g sy = ⟨#[39]⟩ ++ nx2 ++ ⟨#[39]⟩) := HSY.out
            rw [HSY2.out] at HSP2
            go_upto_region 17 with fail
            refine wp_region_later (by kernel_rfl) (by kernel_rfl) ?_
            repeat (quiet_step (first | (go_at_call 18; exact HT3.out _)))
            refine wpQuiet_nil ?_
            intro _ hw'
            obtain ⟨p7, hw''⟩ := hw'
            subst hw''
            have hb7 : Hid (Below w2.heap.size w2 p7.w) := hb6.out.trans (p7.h.mono hb6.out.size)
            clear G0 G1 G2 Y1 S0 HT3 g0 g1 g2 y1 s0
            go_wp2_with fail
            go_roundw
            case rel => exact ⟨m + 1, by omega, by rw [HSP2.out], by go_num, hb7⟩
            case measure => simp [intOf]; omega
        · have HKE : Hid (yr.take m = yr) := by show _ = _; rw [List.take_of_length_le (by omega)]
          rw [HKE.out] at hszm ⊢
          generalize Sh.symsT g (nx ++ ⟨#[32, 61]⟩) yr = want at *
          go_wp2_with fail
          go_roundw
          case rel => exact ⟨k + 1, by omega, ⟨_, rfl, by simp only [Sh.size_app]; show _ + (0 + 3) ≤ _; omega⟩, by go_num, hb⟩
          case measure => simp [intOf]; omega
    · go_wp2_with (go_at_call 17; fail)
      refine (HRG.out _ HBr.out).mono ?_
      rintro e w4 ⟨rfl, hb4⟩
      have HB4 : Hid (Below w.heap.size w w4) := HBr.out.trans (hb4.mono HBr.out.size)
      go_wp2_with (go_at_call 19; fail)
      refine (swakes_any _).mono ?_
      rintro e w5 ⟨rfl, hb5⟩
      go_wp2_with fail
      go_ret
      exact ⟨rfl, HB4.out.trans (hb5.mono HB4.out.size)⟩

theorem showRules_walk (g : Gr.Gm) (A : GA) (w : World) (h : GmAt w.heap.size w g A) (hr : ∀ r ∈ g.rules, r.2.length ≤ maxLen ∧ rlWf r) :
    Calls Try.prog 6 #[.agg (gmCells g A)] w fun e w' => e = .returned (.bool true) ∧ Below w.heap.size w w' := by
  have hm : ∀ r ∈ g.rules, r.2.length ≤ maxLen := fun r h => (hr r h).1
  cases hl : Gr.large g
  · cases hg : Gr.good g
    · exact showRules_bad g A w h hm hl hg
    · exact showRules_good g A w h hm hl hg
  · exact showRules_large g A w h hm hl
end Go.Proofs.Ytnphfhoknnnciaa
