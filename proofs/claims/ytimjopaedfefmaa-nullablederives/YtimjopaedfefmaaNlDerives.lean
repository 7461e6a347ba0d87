/-
  The law NullableDerives, walked: it returns true, of every grammar, number and row of numbers.
-/
import Derived.Test.YtimjopaedfefmaaNlDer1
import Derived.Deep.DeepCutAuto
namespace Go.Proofs.Ytimjopaedfefmaa
open Go.RowKit Go.Conc

/-- what holds of memory while the rule is made: W6 stands; x's block, its right side's row -/
structure DInv (W6 wr : World) (b : Nat) (x : Int) (v : Value) (done : List Int) : Prop where
  below : Below W6.heap.size W6 wr
  lt : W6.heap.size ≤ b ∧ b < wr.heap.size
  xb : wr.heap[b]? = some (.cells #[.int .i64 x, v] 43 (0, 0))
  ov : OwnInts W6.heap.size wr v done

theorem DInv.later {W6 wr w' : World} {b : Nat} {x : Int} {v : Value} {done : List Int} (h : DInv W6 wr b x v done) (hb : Below wr.heap.size wr w') : DInv W6 w' b x v done :=
  ⟨h.below.trans (hb.mono h.below.size), ⟨h.lt.1, Nat.lt_of_lt_of_le h.lt.2 hb.size⟩, (hb.block _ h.lt.2).trans h.xb, ownsRow_below h.ov hb⟩
theorem DInv.ne {W6 wr : World} {b : Nat} {x : Int} {v : Value} {done : List Int} (h : DInv W6 wr b x v done) : v.ownBlock ≠ some b := own_ne h.ov h.xb (by decide)
theorem rset {w : World} {b : Nat} {x y z : Value} {t : TypeId} (h : w.heap[b]? = some (.cells #[x, y] t (0, 0))) : (w.setCell ⟨b, 1, none⟩ z).heap[b]? = some (.cells #[x, z] t (0, 0)) := by
  simp [World.setCell, Array.getElem?_modify, h]
theorem rset2 {w : World} {b : Nat} {x y z u : Value} {t : TypeId} (h : w.heap[b]? = some (.cells #[x, y] t (0, 0))) : ((w.setCell ⟨b, 0, none⟩ z).setCell ⟨b, 1, none⟩ u).heap[b]? = some (.cells #[z, u] t (0, 0)) := by
  simp [World.setCell, Array.getElem?_modify, h]
theorem DInv.push {W6 wr w1 : World} {b : Nat} {x : Int} {v v' : Value} {done done' : List Int} (h : DInv W6 wr b x v done) (hg : wr.grownBy w1 v.ownBlock) (ho : OwnInts W6.heap.size w1 v' done') : DInv W6 (w1.setCell ⟨b, 1, none⟩ v') b x v' done' := by
  have hb : w1.heap[b]? = some (.cells #[.int .i64 x, v] 43 (0, 0)) := (hg.block b h.lt.2 (fun e => h.ne e.symm)).trans h.xb
  refine ⟨?_, ⟨h.lt.1, ?_⟩, rset hb, ownsRow_setCell_other ho (own_ne ho hb (by decide)) _⟩
  · exact (h.below.grown hg h.below.size (fun q hq => (World.ownsRow.lt h.ov q hq).1)).setCell (by exact h.lt.1) _
  · rw [size_setCell]; exact Nat.lt_of_lt_of_le h.lt.2 hg.size

theorem rules_push {N B ga cap : Nat} {wv w8 : World} {g : Gr.Gm} {A : GA} {x : Gr.Rl} {cs : Array Value} (ho : GmOwn N wv g A) (hB : wv.heap[B]? = some (.cells cs 26 (0, 0))) (hg : wv.grownBy w8 (Value.slice A.ra g.rules.length A.rc).ownBlock)
    (hr : OwnRls N w8 (.slice (some ⟨ga, 0, none⟩) (g.rules.length + 1) cap) (g.rules ++ [x])) (u : Value) :
    w8.heap[B]? = some (.cells cs 26 (0, 0)) ∧ GmOwn N (w8.setCell ⟨B, 2, none⟩ u) ⟨g.terms, g.names, g.rules ++ [x]⟩ ⟨A.ta, A.tc, A.na, A.nc, some ⟨ga, 0, none⟩, cap⟩ := by
  have hb8 : w8.heap[B]? = some (.cells cs 26 (0, 0)) := (hg.block B (Array.getElem?_eq_some_iff.1 hB).1 (fun e => own_rls_ne ho.rules hB (by decide) e.symm)).trans hB
  obtain ⟨ps, _, hps, _⟩ := ho.rules
  refine ⟨hb8, ⟨?_, ?_, ?_, ho.ttext, ho.ntext⟩⟩
  · have h2 := World.ownsRow.kept ho.terms hg (row_apart ho.terms hps (by decide))
    exact ownsRow_setCell_other h2 (own_ne h2 hb8 (by decide)) _
  · have h2 := World.ownsRow.kept ho.names hg (row_apart ho.names hps (by decide))
    exact ownsRow_setCell_other h2 (own_ne h2 hb8 (by decide)) _
  · obtain ⟨qs, e1, e2, e3⟩ := hr
    simp only [List.length_append, List.length_singleton]
    exact ⟨qs, e1, ownsRow_setCell_other e2 (own_ne e2 hb8 (by decide)) _, fun p hp => ownsRow_setCell_other (e3 p hp) (own_ne (e3 p hp) hb8 (by decide)) _⟩

set_option maxRecDepth 100000 in
set_option maxHeartbeats 12800000 in
theorem nullableDerives_in (g : Gr.Gm) (A : GA) (n : Int) (ao : Option Addr) (c : Nat) (l : List Int) (w : World) (h : GmAt w.heap.size w g A) (hm : ∀ r ∈ g.rules, r.2.length ≤ maxLen) (hl : Gr.large g = false) (hg : Gr.good g = true) (hll : l.length ≤ 8) (h60 : g.rules.length < 60)
    (hn : 0 ≤ n ∧ n < 256) (hx : KindAt .u8 w.heap.size w ao l) (hx0 : ∀ x ∈ l, 0 ≤ x ∧ x < 256) :
    Calls Try.prog 6 #[.agg (gmCells g A), .int .u8 n, .slice ao l.length c] w fun e w' => e = .returned (.bool true) ∧ Below w.heap.size w w' := by
  obtain ⟨ta, tc, na, nc, ra, rc⟩ := A
  have HM : Hid _ := hm
  have HG : Hid (GmAt w.heap.size w g ⟨ta, tc, na, nc, ra, rc⟩) := h
  have HX : Hid (KindAt .u8 w.heap.size w ao l) := hx
  have HX0 : Hid _ := hx0
  obtain ⟨hsz, h8⟩ := Nl.sizes_of hg
  obtain ⟨l1, l2, l3, _, _, l4⟩ := Gr.large_no hl
  have H4 : Hid (∀ r ∈ g.rules, r.2.length ≤ 4000) := fun r hr => Nat.le_trans (h8 r hr) (by omega)
  have HGD0 : Hid _ := hg
  have hlen := Nl.of_len hg
  have hbW : Hid (Below w.heap.size w (w.alloc (Obj.cells #[.slice ta g.terms.length tc, .slice na g.names.length nc, .slice ra g.rules.length rc] 26))) := (Below.refl _ w).alloc (Nat.le_refl _) _
  have b0 : Hid ((w.alloc (Obj.cells #[.slice ta g.terms.length tc, .slice na g.names.length nc, .slice ra g.rules.length rc] 26)).heap[w.heap.size]? = some (.cells #[.slice ta g.terms.length tc, .slice na g.names.length nc, .slice ra g.rules.length rc] 26 (0, 0))) := heap_alloc_new w _
  have HL1 : Hid (∀ (W : World), Below w.heap.size w W → Calls Try.prog 14 #[.agg (gmCells g ⟨ta, tc, na, nc, ra, rc⟩)] W fun e w' => e = .returned (.bool false) ∧ Below W.heap.size W w') := fun W hW => large_is false g _ W hm (h.later hW).size hl
  have HGD : Hid (∀ (W : World), Below w.heap.size w W → Calls Try.prog 26 #[.agg (gmCells g ⟨ta, tc, na, nc, ra, rc⟩)] W fun e w' => e = .returned (.bool true) ∧ Below W.heap.size W w') := fun W hW => refGood_any true g _ W hm (h.next hW) (by rw [Gr.refGood_is]; exact hg)
  have HOF : Hid (∀ (W : World), Below w.heap.size w W → Calls Try.prog 18 #[.agg (gmCells g ⟨ta, tc, na, nc, ra, rc⟩)] W fun e w' => ∃ ao c, e = .returned (.slice ao (g.terms.length + g.names.length) c) ∧ Hid (BoolsAt w'.heap.size w' ao (Nl.of g)) ∧ Hid (Below W.heap.size W w')) := fun W hW => by
    rw [← hlen]; exact nof_is g _ W hm (h.next hW)
  have HRU : Hid (∀ (q : Nat) (b : Bool) (W : World), Below w.heap.size w W → Nl.rule g (q : Int) = b → Calls Try.prog 20 #[.agg (gmCells g ⟨ta, tc, na, nc, ra, rc⟩), .int .i64 (q : Int)] W fun e w' => e = .returned (.bool b) ∧ Below W.heap.size W w') := fun q b W hW hb => nrule_is b g _ _ W H4.out (h.next hW) hb
  have HOW : Hid (∀ (W : World), Below w.heap.size w W → Calls Try.prog 15 #[.agg (gmCells g ⟨ta, tc, na, nc, ra, rc⟩)] W fun e w' => ∃ A', e = .returned (.agg (gmCells g A')) ∧ Hid (GmOwn W.heap.size w' g A') ∧ Hid (Below W.heap.size W w')) := fun W hW => (own_is g _ W l1 l2 (by omega) H4.out (h.later hW).size).mono fun e w' ⟨A', h1, h2, h3, _⟩ => ⟨A', h1, h2, h3⟩
  have h8i : ¬ (8 : Int) < (l.length : Int) := by omega
  have h60i : ¬ (60 : Int) ≤ (g.rules.length : Int) := by omega
  simp only [gmCells] at HL1 HGD HOF HRU HOW ⊢
  clear h hm h8 hx hx0 l4 hg
  go_enter Try.func6, Try.ntmps6
  go_wp2_with (go_at_call 14; fail)
  generalize (w.alloc (Obj.cells #[.slice ta g.terms.length tc, .slice na g.names.length nc, .slice ra g.rules.length rc] 26)) = W at *
  refine Calls.mono (HL1.out _ hbW.out) ?_
  rintro e w1 ⟨rfl, hb1⟩
  have b1 : Hid _ := (hb1.block _ (Array.getElem?_eq_some_iff.1 b0.out).1).trans b0.out
  have HB1 : Hid (Below w.heap.size w w1) := hbW.out.trans (hb1.mono hbW.out.size)
  obtain ⟨g0, g1, g2, _⟩ := cells_three_z b1.out
  clear hb1 b0 hbW HL1
  go_wp2_with (go_at_call 26; fail)
  refine Calls.mono (HGD.out _ HB1.out) ?_
  rintro e w2 ⟨rfl, hb2⟩
  have b2 : Hid _ := (hb2.block _ (Array.getElem?_eq_some_iff.1 b1.out).1).trans b1.out
  have HB2 : Hid (Below w.heap.size w w2) := HB1.out.trans (hb2.mono HB1.out.size)
  clear g0 g1 g2 hb2 HB1 HGD b1
  obtain ⟨g0, g1, g2, _⟩ := cells_three_z b2.out
  go_wp2_with (go_at_call 18; fail)
  refine Calls.mono (HOF.out _ HB2.out) ?_
  rintro e w3 ⟨io, ic, rfl, hbs, hb3⟩
  have b3 : Hid _ := (hb3.out.block _ (Array.getElem?_eq_some_iff.1 b2.out).1).trans b2.out
  have HB3 : Hid (Below w.heap.size w w3) := HB2.out.trans (hb3.out.mono HB2.out.size)
  clear g0 g1 g2 hb3 HB2 HOF b2
  obtain ⟨g0, g1, g2, _⟩ := cells_three_z b3.out
  have U0 : Hid (Below w.heap.size w w3 ∧ w3.heap[w.heap.size]? = some (.cells #[.slice ta g.terms.length tc, .slice na g.names.length nc, .slice ra g.rules.length rc] 26 (0, 0)) ∧ BoolsAt w3.heap.size w3 io (Nl.of g)) := ⟨HB3.out, b3.out, hbs.out⟩
  clear HB3 b3 hbs
  go_wp2_with fail
  clear g0 g1 g2
  go_loopw [9, 10, 11] (fun sv _ _ wr => ∃ s : Nat, s ≤ g.terms.length + g.names.length ∧ sv = .int .i64 s ∧ Hid (Below w.heap.size w wr ∧ wr.heap[w.heap.size]? = some (.cells #[.slice ta g.terms.length tc, .slice na g.names.length nc, .slice ra g.rules.length rc] 26 (0, 0)) ∧ BoolsAt wr.heap.size wr io (Nl.of g))) (fun sv _ _ _ => g.terms.length + g.names.length - (intOf sv).toNat)
  case atStart => exact ⟨0, Nat.zero_le _, rfl, U0⟩
  case round =>
    obtain ⟨s, hs, rfl, hU⟩ := hrel
    clear U0
    by_cases hsl : s < g.terms.length + g.names.length
    · have hsi : (s : Int) < (g.terms.length : Int) + (g.names.length : Int) := by omega
      have P0 : Hid ((g.rules.take 0).any (fun r => decide (r.1 = (s : Int)) && Nl.allIn (Nl.of g) r.2) = false) := rfl
      go_upto_region 12 with fail
      go_loopw [10, 11] (fun bv iv wc => ∃ (sb : Bool) (q : Nat), q ≤ g.rules.length ∧ bv = .bool sb ∧ iv = .int .i64 q ∧ Hid ((g.rules.take q).any (fun r => decide (r.1 = (s : Int)) && Nl.allIn (Nl.of g) r.2) = sb) ∧ Hid (Below w.heap.size w wc ∧ wc.heap[w.heap.size]? = some (.cells #[.slice ta g.terms.length tc, .slice na g.names.length nc, .slice ra g.rules.length rc] 26 (0, 0)) ∧ BoolsAt wc.heap.size wc io (Nl.of g))) (fun _ iv _ => g.rules.length - (intOf iv).toNat)
      case atStart => exact ⟨false, 0, Nat.zero_le _, rfl, rfl, P0, hU⟩
      case round =>
        obtain ⟨sb, q, hq, rfl, rfl, hE, hV⟩ := hrel
        clear P0 hU
        obtain ⟨g0, g1, g2, _⟩ := cells_three_z hV.out.2.1
        by_cases hql : q < g.rules.length
        · have hqi : (q : Int) < (g.rules.length : Int) := by omega
          obtain ⟨rb, ro, yo, yc, hra, _, _, y0, y1, yI, _⟩ := HG.out.rules q hql
          simp only at hra
          subst hra
          have hET := any_take (fun r => decide (r.1 = (s : Int)) && Nl.allIn (Nl.of g) r.2) g.rules q hql
          have hRA := Nl.rule_at HGD0.out q hql
          rw [← hRA, hE.out] at hET
          clear yI hRA
          generalize g.rules[q] = y at *
          obtain ⟨yl, yr⟩ := y
          simp only at y0 y1 hET
          replace y0 := cell_later hV.out.1 y0
          cases sb
          · by_cases hys : yl = (s : Int)
            · subst hys
              obtain ⟨rv, hrv⟩ : ∃ rv, Nl.rule g (q : Int) = rv := ⟨_, rfl⟩
              have HR1 : Hid _ := HRU.out q rv wr hV.out.1 hrv
              have HN : Hid ((g.rules.take (q + 1)).any (fun r => decide (r.1 = (s : Int)) && Nl.allIn (Nl.of g) r.2) = rv) := by show _ = _; rw [hET, hrv]; simp
              clear hET hE hrv
              go_wp2_with (go_at_call 20; fail)
              refine Calls.mono HR1.out ?_
              rintro e w5 ⟨rfl, hb5⟩
              have hV5 : Hid (Below w.heap.size w w5 ∧ w5.heap[w.heap.size]? = some (.cells #[.slice ta g.terms.length tc, .slice na g.names.length nc, .slice (some ⟨rb, ro, none⟩) g.rules.length rc] 26 (0, 0)) ∧ BoolsAt w5.heap.size w5 io (Nl.of g)) :=
                ⟨hV.out.1.trans (hb5.mono hV.out.1.size), (hb5.block _ (Array.getElem?_eq_some_iff.1 hV.out.2.1).1).trans hV.out.2.1, hV.out.2.2.next hb5⟩
              clear HR1 hV g0 g1 g2 y0 y1 hb5
              go_wp2_with fail
              go_roundw
              case rel => exact ⟨rv, q + 1, by omega, rfl, by go_num, HN, hV5⟩
              case measure => simp [intOf]; omega
            · have hyd : (yl == (s : Int)) = false := by simp [hys]
              have HN : Hid ((g.rules.take (q + 1)).any (fun r => decide (r.1 = (s : Int)) && Nl.allIn (Nl.of g) r.2) = false) := by show _ = _; rw [hET]; simp [hys]
              clear hET hE hys
              go_wp2_with fail
              go_roundw
              case rel => exact ⟨false, q + 1, by omega, rfl, by go_num, HN, hV⟩
              case measure => simp [intOf]; omega
          · have HN : Hid ((g.rules.take (q + 1)).any (fun r => decide (r.1 = (s : Int)) && Nl.allIn (Nl.of g) r.2) = true) := by show _ = _; rw [hET]; rfl
            clear hET hE
            go_wp2_with fail
            go_roundw
            case rel => exact ⟨true, q + 1, by omega, rfl, by go_num, HN, hV⟩
            case measure => simp [intOf]; omega
        · have hqi : ¬ (q : Int) < (g.rules.length : Int) := by omega
          have hE2 := hE.out
          rw [List.take_of_length_le (by omega), Nl.some_is HGD0.out] at hE2
          obtain ⟨ib, iq, hio, _, _, hc0⟩ := hV.out.2.2.get s (by rw [hlen]; exact hsl)
          subst hio
          have e1 : Nl.isAt (Nl.of g) (s : Int) = (Nl.of g)[s]'(by rw [hlen]; exact hsl) := by rw [Nl.isAt_get (by omega) (by simpa [hlen] using hsl)]; simp
          rw [← e1, hE2] at hc0
          have hst : s < g.terms.length → sb = false := fun hh => by rw [← hE2]; exact Nl.term_no HGD0.out s hh
          clear e1 hE2 hE
          cases sb
          · by_cases hsT : s < g.terms.length
            · have hsTi : (s : Int) < (g.terms.length : Int) := by omega
              go_wp2_with fail
              go_roundw
              case rel => exact ⟨s + 1, by omega, by go_num, hV⟩
              case measure => simp [intOf]; omega
            · have hsTi : ¬ (s : Int) < (g.terms.length : Int) := by omega
              go_wp2_with fail
              go_roundw
              case rel => exact ⟨s + 1, by omega, by go_num, hV⟩
              case measure => simp [intOf]; omega
          · have hsT : ¬ s < g.terms.length := fun hh => by have := hst hh; cases this
            have hsTi : ¬ (s : Int) < (g.terms.length : Int) := by omega
            clear hst hsT
            go_wp2_with fail
            go_roundw
            case rel => exact ⟨s + 1, by omega, by go_num, hV⟩
            case measure => simp [intOf]; omega
    · have hsi : ¬ (s : Int) < (g.terms.length : Int) + (g.names.length : Int) := by omega
      obtain ⟨WO, hWO⟩ : ∃ WO, WO = wr := ⟨_, rfl⟩
      subst hWO
      obtain ⟨g0, g1, g2, _⟩ := cells_three_z hU.out.2.1
      go_wp2_with (go_at_call 15; fail)
      refine Calls.mono (HOW.out _ hU.out.1) ?_
      rintro e w5 ⟨⟨ta2, tc2, na2, nc2, ra2, rc2⟩, rfl, ho5, hb5⟩
      have U6 : Hid (Below WO.heap.size WO (w5.alloc (Obj.cells #[.slice ta2 g.terms.length tc2, .slice na2 g.names.length nc2, .slice ra2 g.rules.length rc2] 26)) ∧ (w5.alloc (Obj.cells #[.slice ta2 g.terms.length tc2, .slice na2 g.names.length nc2, .slice ra2 g.rules.length rc2] 26)).heap[w5.heap.size]? = some (.cells #[.slice ta2 g.terms.length tc2, .slice na2 g.names.length nc2, .slice ra2 g.rules.length rc2] 26 (0, 0)) ∧ GmOwn WO.heap.size (w5.alloc (Obj.cells #[.slice ta2 g.terms.length tc2, .slice na2 g.names.length nc2, .slice ra2 g.rules.length rc2] 26)) g ⟨ta2, tc2, na2, nc2, ra2, rc2⟩) := by
        have hb6 : Below w5.heap.size w5 (w5.alloc (Obj.cells #[.slice ta2 g.terms.length tc2, .slice na2 g.names.length nc2, .slice ra2 g.rules.length rc2] 26)) := (Below.refl _ w5).alloc (Nat.le_refl _) _
        exact ⟨hb5.out.trans (hb6.mono hb5.out.size), heap_alloc_new w5 _, ho5.out.below hb6⟩
      have hz5 : WO.heap.size ≤ w5.heap.size := hb5.out.size
      clear ho5 hb5 HOW g0 g1 g2
      go_upto_region 18 with fail
      generalize (w5.alloc (Obj.cells #[.slice ta2 g.terms.length tc2, .slice na2 g.names.length nc2, .slice ra2 g.rules.length rc2] 26)) = W6 at *
      generalize w5.heap.size = B12 at *
      have k6 : Hid (W6.heap[w.heap.size]? = some (.cells #[.slice ta g.terms.length tc, .slice na g.names.length nc, .slice ra g.rules.length rc] 26 (0, 0))) := (U6.out.1.block _ (Array.getElem?_eq_some_iff.1 hU.out.2.1).1).trans hU.out.2.1
      have HC : Hid (∀ w1 : World, Lat W6.drew w1 → w1.cell? ⟨w.heap.size, 0, none⟩ = some (.slice ta g.terms.length tc) ∧ w1.cell? ⟨w.heap.size, 1, none⟩ = some (.slice na g.names.length nc) ∧ w1.cell? ⟨w.heap.size, 2, none⟩ = some (.slice ra g.rules.length rc)) := fun w1 hL => by
        have h := cells_three_z ((hL.of_drew.block _ (Array.getElem?_eq_some_iff.1 k6.out).1).trans k6.out)
        exact ⟨h.1, h.2.1, h.2.2.1⟩
      obtain ⟨mm, hmm, hml⟩ : ∃ mm : Nat, n % (g.names.length : Int) = (mm : Int) ∧ mm < g.names.length := ⟨(n % (g.names.length : Int)).toNat, by have := Int.emod_nonneg n (b := (g.names.length : Int)) (by omega); omega, by have := Int.emod_lt_of_pos n (b := (g.names.length : Int)) (by omega); have := Int.emod_nonneg n (b := (g.names.length : Int)) (by omega); omega⟩
      have htm : n.tmod (g.names.length : Int) = (mm : Int) := by rw [Int.tmod_eq_emod_of_nonneg hn.1]; exact hmm
      have hnz : ¬ g.names = [] := fun e => by rw [e] at hml; simp at hml
      have hwn : IntKind.wrap .i64 n = n := by rw [IntKind.wrap_i64]; omega
      have hwm : IntKind.wrap .i64 (mm : Int) = (mm : Int) := by rw [IntKind.wrap_i64]; omega
      have hwa : IntKind.wrap .i64 ((g.terms.length : Int) + (mm : Int)) = (g.terms.length : Int) + (mm : Int) := by rw [IntKind.wrap_i64]; omega
      refine wp_region_lat [.val (.pointer (some ⟨w.heap.size, 0, none⟩)), .val (.slice ta g.terms.length tc), .val (.int .i64 g.terms.length), .val (.int .u8 n), .val (.int .i64 n), .val (.pointer (some ⟨w.heap.size, 1, none⟩)), .val (.slice na g.names.length nc), .val (.int .i64 g.names.length), .val (.int .i64 (mm : Int)), .val (.int .i64 ((g.terms.length : Int) + (mm : Int))), .val (.agg #[.int .i64 ((g.terms.length : Int) + (mm : Int)), .slice none 0 0]), .fact (fun v w' => ∃ b, v = .pointer (some ⟨b, 0, none⟩) ∧ W6.heap.size ≤ b ∧ w'.heap[b]? = some (.cells #[.int .i64 0, .slice none 0 0] 43 (0, 0)))] [_] (by kernel_rfl) (by kernel_rfl) rfl ?kept ?walk
      case kept => exact ⟨fun v w1 w2 hL ⟨b, e, h1, h2⟩ => ⟨b, e, h1, by rw [hL.block _ (Array.getElem?_eq_some_iff.1 h2).1]; exact h2⟩, trivial⟩
      case walk =>
        refine wpFacts_val (by rfl) (fun w1 hL hd K hK => ?_) ?_
        · go_simp
          exact hK _ (Lat.refl _)
        refine wpFacts_norm (by simp only [Act.put, List.setIfInBounds_toArray, List.set_cons_zero, List.set_cons_succ]; rfl) (by simp only [List.nil_append]; rfl) ?_
        refine wpFacts_val (by rfl) (fun w1 hL hd K hK => ?_) ?_
        · obtain ⟨d0, d1, d2⟩ := HC.out w1 hL
          go_simp
          exact hK _ (Lat.refl _)
        refine wpFacts_norm (by simp only [Act.put, List.setIfInBounds_toArray, List.set_cons_zero, List.set_cons_succ]; rfl) (by simp only [List.cons_append, List.nil_append]; rfl) ?_
        refine wpFacts_val (by rfl) (fun w1 hL hd K hK => ?_) ?_
        · go_simp
          exact hK _ (Lat.refl _)
        refine wpFacts_norm (by simp only [Act.put, List.setIfInBounds_toArray, List.set_cons_zero, List.set_cons_succ]; rfl) (by simp only [List.cons_append, List.nil_append]; rfl) ?_
        refine wpFacts_val (by rfl) (fun w1 hL hd K hK => ?_) ?_
        · go_simp
          exact hK _ (Lat.refl _)
        refine wpFacts_norm (by simp only [Act.put, List.setIfInBounds_toArray, List.set_cons_zero, List.set_cons_succ]; rfl) (by simp only [List.cons_append, List.nil_append]; rfl) ?_
        refine wpFacts_val (by rfl) (fun w1 hL hd K hK => ?_) ?_
        · go_simp
          exact hK _ (Lat.refl _)
        refine wpFacts_norm (by simp only [Act.put, List.setIfInBounds_toArray, List.set_cons_zero, List.set_cons_succ]; rfl) (by simp only [List.cons_append, List.nil_append]; rfl) ?_
        refine wpFacts_val (by rfl) (fun w1 hL hd K hK => ?_) ?_
        · go_simp
          exact hK _ (Lat.refl _)
        refine wpFacts_norm (by simp only [Act.put, List.setIfInBounds_toArray, List.set_cons_zero, List.set_cons_succ]; rfl) (by simp only [List.cons_append, List.nil_append]; rfl) ?_
        refine wpFacts_val (by rfl) (fun w1 hL hd K hK => ?_) ?_
        · obtain ⟨d0, d1, d2⟩ := HC.out w1 hL
          go_simp
          exact hK _ (Lat.refl _)
        refine wpFacts_norm (by simp only [Act.put, List.setIfInBounds_toArray, List.set_cons_zero, List.set_cons_succ]; rfl) (by simp only [List.cons_append, List.nil_append]; rfl) ?_
        refine wpFacts_val (by rfl) (fun w1 hL hd K hK => ?_) ?_
        · go_simp
          exact hK _ (Lat.refl _)
        refine wpFacts_norm (by simp only [Act.put, List.setIfInBounds_toArray, List.set_cons_zero, List.set_cons_succ]; rfl) (by simp only [List.cons_append, List.nil_append]; rfl) ?_
        refine wpFacts_val (by rfl) (fun w1 hL hd K hK => ?_) ?_
        · go_simp
          exact hK _ (Lat.refl _)
        refine wpFacts_norm (by simp only [Act.put, List.setIfInBounds_toArray, List.set_cons_zero, List.set_cons_succ]; rfl) (by simp only [List.cons_append, List.nil_append]; rfl) ?_
        refine wpFacts_val (by rfl) (fun w1 hL hd K hK => ?_) ?_
        · go_simp
          exact hK _ (Lat.refl _)
        refine wpFacts_norm (by simp only [Act.put, List.setIfInBounds_toArray, List.set_cons_zero, List.set_cons_succ]; rfl) (by simp only [List.cons_append, List.nil_append]; rfl) ?_
        refine wpFacts_val (by rfl) (fun w1 hL hd K hK => ?_) ?_
        · go_simp
          exact hK _ (Lat.refl _)
        refine wpFacts_norm (by simp only [Act.put, List.setIfInBounds_toArray, List.set_cons_zero, List.set_cons_succ]; rfl) (by simp only [List.cons_append, List.nil_append]; rfl) ?_
        refine wpFacts_fact (by rfl) (fun w1 hL hd K hK => ?_) (fun v11 => ?_)
        · go_simp
          exact hK _ _ (Below.alloc (Below.refl _ _) (Nat.le_refl _) _) ⟨_, rfl, hL.of_drew.size, heap_alloc_new _ _⟩
        refine wpFacts_norm (by simp only [Act.put, List.setIfInBounds_toArray, List.set_cons_zero, List.set_cons_succ]; rfl) (by simp only [List.cons_append, List.nil_append]; rfl) ?_
        intro w1 hL ha
        obtain ⟨b, rfl, hbM, hbk⟩ : ∃ b, v11 = .pointer (some ⟨b, 0, none⟩) ∧ W6.heap.size ≤ b ∧ w1.heap[b]? = some (.cells #[.int .i64 0, .slice none 0 0] 43 (0, 0)) := allHold_get 11 ha rfl rfl
        have hbl := (Array.getElem?_eq_some_iff.1 hbk).1
        have D0 : Hid (DInv W6 ((w1.setCell ⟨b, 0, none⟩ (.int .i64 ((g.terms.length : Int) + (mm : Int)))).setCell ⟨b, 1, none⟩ (.slice none 0 0)) b ((g.terms.length : Int) + (mm : Int)) (.slice none 0 0) []) :=
          ⟨(Below.setCell hL.of_drew (by exact hbM) _).setCell (by exact hbM) _, ⟨hbM, by rw [size_setCell, size_setCell]; exact hbl⟩, rset2 hbk, World.ownsRow_nil _ _ _ _⟩
        obtain ⟨c0, c1, z0, z1⟩ := cells_two_z hbk
        clear ha hL HC hbk htm hnz hwn hwm hwa
        go_upto_region 19 with fail
        generalize ((w1.setCell ⟨b, 0, none⟩ (.int .i64 ((g.terms.length : Int) + (mm : Int)))).setCell ⟨b, 1, none⟩ (.slice none 0 0)) = W7 at *
        clear c0 c1 z0 z1 hbl
        go_wp2_with fail
        have nn : Hid (0 < g.terms.length + g.names.length) := by show 0 < _; omega
        go_loopw [14] (fun iv wr => ∃ (k : Nat) (xo : Option Addr) (xc : Nat), k ≤ l.length ∧ iv = .int .i64 k ∧ Hid (DInv W6 wr b ((g.terms.length : Int) + (mm : Int)) (.slice xo k xc) ((l.take k).map (fun z => z % ((g.terms.length : Int) + (g.names.length : Int)))))) (fun iv _ => l.length - (intOf iv).toNat)
        case atStart => exact ⟨0, none, 0, Nat.zero_le _, rfl, D0⟩
        case round =>
          obtain ⟨k, xo, xc, hk, rfl, hD⟩ := hrel
          clear D0
          have HBw : Hid (Below w.heap.size w wr) := hU.out.1.trans ((U6.out.1.trans (hD.out.below.mono U6.out.1.size)).mono hU.out.1.size)
          have HQ : Hid (((l.take k).map (fun z => z % ((g.terms.length : Int) + (g.names.length : Int)))).length = k) := by show _ = _; rw [List.length_map, List.length_take]; omega
          by_cases hkl : k < l.length
          · have hki : (k : Int) < (l.length : Int) := by omega
            obtain ⟨lb, lo, hao, _, _, lc⟩ := HX.out k (by simpa using hkl)
            subst hao
            rw [List.getElem_map] at lc
            have hz := HX0.out _ (List.getElem_mem hkl)
            have HK : Hid ((l.take (k + 1)).map (fun z => z % ((g.terms.length : Int) + (g.names.length : Int))) = (l.take k).map (fun z => z % ((g.terms.length : Int) + (g.names.length : Int))) ++ [l[k] % ((g.terms.length : Int) + (g.names.length : Int))]) := by show _ = _; rw [List.take_add_one, List.getElem?_eq_getElem hkl, List.map_append]; rfl
            generalize l[k] = z at *
            generalize (l.take k).map (fun z => z % ((g.terms.length : Int) + (g.names.length : Int))) = done at *
            obtain ⟨md, hmd, hmdl⟩ : ∃ md : Nat, z % ((g.terms.length : Int) + (g.names.length : Int)) = (md : Int) ∧ md < g.terms.length + g.names.length := ⟨(z % ((g.terms.length : Int) + (g.names.length : Int))).toNat, by have := Int.emod_nonneg z (b := (g.terms.length : Int) + (g.names.length : Int)) (by omega); omega, by have := Int.emod_lt_of_pos z (b := (g.terms.length : Int) + (g.names.length : Int)) (by omega); have := Int.emod_nonneg z (b := (g.terms.length : Int) + (g.names.length : Int)) (by omega); omega⟩
            rw [hmd] at HK
            have htm : z.tmod ((g.terms.length : Int) + (g.names.length : Int)) = (md : Int) := by rw [Int.tmod_eq_emod_of_nonneg hz.1]; exact hmd
            have hnz : ¬ (g.terms.length : Int) + (g.names.length : Int) = 0 := by omega
            have hwz : IntKind.wrap .i64 z = z := by rw [IntKind.wrap_i64]; omega
            have hwd : IntKind.wrap .i64 (md : Int) = (md : Int) := by rw [IntKind.wrap_i64]; omega
            have HC : Hid (∀ w1 : World, Lat wr.drew w1 → w1.cell? ⟨b, 1, none⟩ = some (.slice xo k xc) ∧ w1.cell? ⟨lb, lo + k, none⟩ = some (.int .u8 z)) := fun w1 hL =>
              ⟨cell_later hL.of_drew (cells_two_z hD.out.xb).2.1, cell_later hL.of_drew (cell_later HBw.out lc)⟩
            clear lc
            go_upto_region 22 with fail
            refine wp_region_lat [.val (.pointer (some ⟨b, 1, none⟩)), .val (.slice xo k xc), .val (.slice (some ⟨lb, lo, none⟩) l.length c), .val (.int .i64 k), .val (.pointer (some ⟨lb, lo + k, none⟩)), .val (.int .u8 z), .val (.int .i64 z), .val (.int .i64 ((g.terms.length : Int) + (g.names.length : Int))), .val (.int .i64 (md : Int)), .fact (fun v w' => ∃ d, v = .slice (some ⟨d, 0, none⟩) 1 1 ∧ wr.heap.size ≤ d ∧ w'.heap[d]? = some (.cells #[.int .i64 (md : Int)] 3 (0, 0)))] [_, _, _] (by kernel_rfl) (by kernel_rfl) rfl ?kept ?walk
            case kept => exact ⟨fun v w1 w2 hL ⟨d, e, h1, h2⟩ => ⟨d, e, h1, by rw [hL.block _ (Array.getElem?_eq_some_iff.1 h2).1]; exact h2⟩, trivial⟩
            case walk =>
              refine wpFacts_val (by rfl) (fun w1 hL hd K hK => ?_) ?_
              · go_simp
                exact hK _ (Lat.refl _)
              refine wpFacts_norm (by simp only [Act.put, List.setIfInBounds_toArray, List.set_cons_zero, List.set_cons_succ]; rfl) (by simp only [List.nil_append]; rfl) ?_
              refine wpFacts_val (by rfl) (fun w1 hL hd K hK => ?_) ?_
              · obtain ⟨d0, d1⟩ := HC.out w1 hL
                go_simp
                exact hK _ (Lat.refl _)
              refine wpFacts_norm (by simp only [Act.put, List.setIfInBounds_toArray, List.set_cons_zero, List.set_cons_succ]; rfl) (by simp only [List.cons_append, List.nil_append]; rfl) ?_
              refine wpFacts_val (by rfl) (fun w1 hL hd K hK => ?_) ?_
              · go_simp
                exact hK _ (Lat.refl _)
              refine wpFacts_norm (by simp only [Act.put, List.setIfInBounds_toArray, List.set_cons_zero, List.set_cons_succ]; rfl) (by simp only [List.cons_append, List.nil_append]; rfl) ?_
              refine wpFacts_val (by rfl) (fun w1 hL hd K hK => ?_) ?_
              · go_simp
                exact hK _ (Lat.refl _)
              refine wpFacts_norm (by simp only [Act.put, List.setIfInBounds_toArray, List.set_cons_zero, List.set_cons_succ]; rfl) (by simp only [List.cons_append, List.nil_append]; rfl) ?_
              refine wpFacts_val (by rfl) (fun w1 hL hd K hK => ?_) ?_
              · go_simp
                exact hK _ (Lat.refl _)
              refine wpFacts_norm (by simp only [Act.put, List.setIfInBounds_toArray, List.set_cons_zero, List.set_cons_succ]; rfl) (by simp only [List.cons_append, List.nil_append]; rfl) ?_
              refine wpFacts_val (by rfl) (fun w1 hL hd K hK => ?_) ?_
              · obtain ⟨d0, d1⟩ := HC.out w1 hL
                go_simp
                exact hK _ (Lat.refl _)
              refine wpFacts_norm (by simp only [Act.put, List.setIfInBounds_toArray, List.set_cons_zero, List.set_cons_succ]; rfl) (by simp only [List.cons_append, List.nil_append]; rfl) ?_
              refine wpFacts_val (by rfl) (fun w1 hL hd K hK => ?_) ?_
              · go_simp
                exact hK _ (Lat.refl _)
              refine wpFacts_norm (by simp only [Act.put, List.setIfInBounds_toArray, List.set_cons_zero, List.set_cons_succ]; rfl) (by simp only [List.cons_append, List.nil_append]; rfl) ?_
              refine wpFacts_val (by rfl) (fun w1 hL hd K hK => ?_) ?_
              · go_simp
                exact hK _ (Lat.refl _)
              refine wpFacts_norm (by simp only [Act.put, List.setIfInBounds_toArray, List.set_cons_zero, List.set_cons_succ]; rfl) (by simp only [List.cons_append, List.nil_append]; rfl) ?_
              refine wpFacts_val (by rfl) (fun w1 hL hd K hK => ?_) ?_
              · go_simp
                exact hK _ (Lat.refl _)
              refine wpFacts_norm (by simp only [Act.put, List.setIfInBounds_toArray, List.set_cons_zero, List.set_cons_succ]; rfl) (by simp only [List.cons_append, List.nil_append]; rfl) ?_
              refine wpFacts_fact (by rfl) (fun w1 hL hd K hK => ?_) (fun v9 => ?_)
              · go_simp
                exact hK _ _ (Below.alloc (Below.refl _ _) (Nat.le_refl _) _) ⟨_, rfl, hL.of_drew.size, heap_alloc_new _ _⟩
              refine wpFacts_norm (by simp only [Act.put, List.setIfInBounds_toArray, List.set_cons_zero, List.set_cons_succ]; rfl) (by simp only [List.cons_append, List.nil_append]; rfl) ?_
              intro w1 hL ha
              obtain ⟨d, rfl, hd1, hd2⟩ : ∃ d, v9 = .slice (some ⟨d, 0, none⟩) 1 1 ∧ wr.heap.size ≤ d ∧ w1.heap[d]? = some (.cells #[.int .i64 (md : Int)] 3 (0, 0)) := allHold_get 9 ha rfl rfl
              clear ha
              have hD1 : Hid _ := hD.out.later hL.of_drew
              have hs1 := hD1.out.below.size
              have hdc : w1.cell? ⟨d, 0, none⟩ = some (.int .i64 (md : Int)) := by simp [World.cell?, hd2]
              refine wpList_append_oint rfl (.tmp 116) (.tmp 124) rfl W6.heap.size (.slice xo k xc) done rfl hD1.out.ov d 1 (md : Int) rfl hdc (by rw [HQ.out]; omega) hs1 ?_
              intro ga cap w2 ho2 hg2
              rw [HQ.out] at ho2 ⊢
              rw [← HK.out] at ho2
              have hD2 : Hid _ := hD1.out.push hg2 ho2
              obtain ⟨e0, e1, ez0, ez1⟩ := cells_two_z ((hg2.block b hD1.out.lt.2 (fun e => hD1.out.ne e.symm)).trans hD1.out.xb)
              have hb2 : b < w2.heap.size := Nat.lt_of_lt_of_le hD1.out.lt.2 hg2.size
              clear hd1 hd2 hdc ho2 hg2 hD1 hL HC hD htm hnz hwz hwd
              go_wp2_with fail
              go_roundw
              case rel => exact ⟨k + 1, some ⟨ga, 0, none⟩, cap, by omega, by go_num, hD2⟩
              case measure => simp [intOf]; omega
          · have hki : ¬ (k : Int) < (l.length : Int) := by omega
            have ho9 : Hid (GmOwn WO.heap.size (wr.alloc (Obj.cells #[.int .i64 ((g.terms.length : Int) + (mm : Int)), .slice xo k xc] 43)) g ⟨ta2, tc2, na2, nc2, ra2, rc2⟩) := (U6.out.2.2.below hD.out.below).below ((Below.refl _ wr).alloc (Nat.le_refl _) _)
            have hxl : Hid (((l.take k).map (fun z => z % ((g.terms.length : Int) + (g.names.length : Int)))).length ≤ 8) := by show _ ≤ _; rw [HQ.out]; omega
            have kB : Hid (wr.heap[B12]? = some (.cells #[.slice ta2 g.terms.length tc2, .slice na2 g.names.length nc2, .slice ra2 g.rules.length rc2] 26 (0, 0))) := (hD.out.below.block _ (Array.getElem?_eq_some_iff.1 U6.out.2.1).1).trans U6.out.2.1
            have hzW : WO.heap.size ≤ W6.heap.size := U6.out.1.size
            go_upto_region 23 with fail
            generalize (l.take k).map (fun z => z % ((g.terms.length : Int) + (g.names.length : Int))) = xr at *
            obtain rfl : k = xr.length := HQ.out.symm
            have hsw := hD.out.below.size
            obtain ⟨h0, h1, h2, _⟩ := cells_three_z kB.out
            obtain ⟨x0, x1, _⟩ := cells_two_z hD.out.xb
            have hbl := hD.out.lt.2
            have hBl := (Array.getElem?_eq_some_iff.1 kB.out).1
            have hoI : Hid (OwnInts WO.heap.size (wr.alloc (Obj.cells #[.int .i64 ((g.terms.length : Int) + (mm : Int)), .slice xo xr.length xc] 43)) (.slice xo xr.length xc) xr) := ownsRow_from (ownsRow_below hD.out.ov ((Below.refl _ wr).alloc (Nat.le_refl _) _)) hzW
            have hBV : Hid ((wr.alloc (Obj.cells #[.int .i64 ((g.terms.length : Int) + (mm : Int)), .slice xo xr.length xc] 43)).heap[B12]? = some (.cells #[.slice ta2 g.terms.length tc2, .slice na2 g.names.length nc2, .slice ra2 g.rules.length rc2] 26 (0, 0))) := (Below.heap_alloc _ _ _ hBl).trans kB.out
            have HBV : Hid (Below WO.heap.size WO (wr.alloc (Obj.cells #[.int .i64 ((g.terms.length : Int) + (mm : Int)), .slice xo xr.length xc] 43))) := (U6.out.1.trans (hD.out.below.mono hzW)).alloc (by omega) _
            iterate 13 go_step
            refine wpList_append_rl rfl (.tmp 128) (.tmp 130) rfl WO.heap.size (.slice ra2 g.rules.length rc2) g.rules rfl ho9.out.rules wr.heap.size 1 ((g.terms.length : Int) + (mm : Int), xr) xo xc rfl (by simp [go_sem]) (by simp [go_sem]) hoI.out (by omega) (by simp; omega) ?_
            intro ga cap w8 ho8 hg8
            have HB8 : Hid (Below WO.heap.size WO w8) := HBV.out.grown hg8 HBV.out.size (fun q hq => by
              obtain ⟨ps, _, hps, _⟩ := ho9.out.rules
              exact (World.ownsRow.lt hps q hq).1)
            obtain ⟨k8, ho10⟩ := rules_push ho9.out hBV.out hg8 ho8 (.slice (some ⟨ga, 0, none⟩) (g.rules.length + 1) cap)
            obtain ⟨e0, e1, e2, z0, z1, z2⟩ := cells_three_z k8
            have HO10 : Hid _ := ho10
            have k10 : Hid _ := gset1 (z := .slice (some ⟨ga, 0, none⟩) (g.rules.length + 1) cap) k8
            have HB10 : Hid (Below WO.heap.size WO (w8.setCell ⟨B12, 2, none⟩ (.slice (some ⟨ga, 0, none⟩) (g.rules.length + 1) cap))) := HB8.out.setCell (by show WO.heap.size ≤ B12; exact hz5) _
            have hB8l := (Array.getElem?_eq_some_iff.1 k8).1
            clear ho8 hg8 ho10 k8 HB8 hBV HBV hoI ho9 kB h0 h1 h2 x0 x1 hD HBw
            go_upto_region 24 with fail
            generalize (w8.setCell ⟨B12, 2, none⟩ (.slice (some ⟨ga, 0, none⟩) (g.rules.length + 1) cap)) = W10 at *
            clear e0 e1 e2 z0 z1 z2 hB8l
            have HBw : Hid (Below w.heap.size w W10) := hU.out.1.trans (HB10.out.mono hU.out.1.size)
            have HIO : Hid (BoolsAt W10.heap.size W10 io (Nl.of g)) := (hU.out.2.2.later HB10.out).size
            have hmh : ∀ r ∈ (⟨g.terms, g.names, g.rules ++ [((g.terms.length : Int) + (mm : Int), xr)]⟩ : Gr.Gm).rules, r.2.length ≤ maxLen := fun r hr => by
              rcases List.mem_append.1 hr with hr | hr
              · exact HM.out r hr
              · rw [List.mem_singleton] at hr
                subst hr
                exact Nat.le_trans hxl.out (by unfold maxLen; omega)
            have HGH : Hid (∀ (r : Bool) (W : World), Below W10.heap.size W10 W → Gr.good ⟨g.terms, g.names, g.rules ++ [((g.terms.length : Int) + (mm : Int), xr)]⟩ = r → Calls Try.prog 26 #[.agg (gmCells ⟨g.terms, g.names, g.rules ++ [((g.terms.length : Int) + (mm : Int), xr)]⟩ ⟨ta2, tc2, na2, nc2, some ⟨ga, 0, none⟩, cap⟩)] W fun e w' => e = .returned (.bool r) ∧ Below W.heap.size W w') := fun r W hW hr => refGood_any r _ _ W hmh (HO10.out.at.next hW) (by rw [Gr.refGood_is]; exact hr)
            have HOH : Hid (∀ (W : World), Below W10.heap.size W10 W → Gr.good ⟨g.terms, g.names, g.rules ++ [((g.terms.length : Int) + (mm : Int), xr)]⟩ = true → Calls Try.prog 18 #[.agg (gmCells ⟨g.terms, g.names, g.rules ++ [((g.terms.length : Int) + (mm : Int), xr)]⟩ ⟨ta2, tc2, na2, nc2, some ⟨ga, 0, none⟩, cap⟩)] W fun e w' => ∃ ao c, e = .returned (.slice ao (g.terms.length + g.names.length) c) ∧ Hid (BoolsAt w'.heap.size w' ao (Nl.of ⟨g.terms, g.names, g.rules ++ [((g.terms.length : Int) + (mm : Int), xr)]⟩)) ∧ Hid (Below W.heap.size W w')) := fun W hW hr => by
              have := nof_is ⟨g.terms, g.names, g.rules ++ [((g.terms.length : Int) + (mm : Int), xr)]⟩ ⟨ta2, tc2, na2, nc2, some ⟨ga, 0, none⟩, cap⟩ W hmh (HO10.out.at.next hW)
              rw [Nl.of_len hr] at this
              exact this
            simp only [gmCells, List.length_append, List.length_singleton] at HGH HOH
            obtain ⟨h0, h1, h2, _⟩ := cells_three_z k10.out
            cases hgh : Gr.good ⟨g.terms, g.names, g.rules ++ [((g.terms.length : Int) + (mm : Int), xr)]⟩
            · have HC1 : Hid _ := HGH.out false W10 (Below.refl _ _) hgh
              clear HGH HOH hgh hmh
              go_wp2_with (first | (go_at_call 26; refine Calls.mono HC1.out ?_; rintro e w11 ⟨rfl, hb11⟩) | (go_at_call 16; refine Calls.mono (nwakes_any _) ?_; rintro e w12 ⟨rfl, hb12⟩))
              go_ret
              have q := HBw.out.trans (hb11.mono HBw.out.size)
              exact ⟨rfl, q.trans (hb12.mono q.size)⟩
            · have HC1 : Hid _ := HGH.out true W10 (Below.refl _ _) hgh
              have HMO : Hid (∀ s : Int, Nl.isAt (Nl.of g) s = true → Nl.isAt (Nl.of ⟨g.terms, g.names, g.rules ++ [((g.terms.length : Int) + (mm : Int), xr)]⟩) s = true) := fun s hs => Nl.of_more HGD0.out hgh (fun r hr => List.mem_append.2 (.inl hr)) s hs
              have hlen2 := Nl.of_len hgh
              simp only at hlen2
              have HO1 : Hid (∀ (W : World), Below W10.heap.size W10 W → _) := fun W hW => HOH.out W hW hgh
              clear HGH HOH hgh hmh
              go_wp2_with (go_at_call 26; fail)
              refine Calls.mono HC1.out ?_
              rintro e w11 ⟨rfl, hb11⟩
              have k11 : Hid _ := (hb11.block _ (Array.getElem?_eq_some_iff.1 k10.out).1).trans k10.out
              clear h0 h1 h2
              obtain ⟨h0, h1, h2, _⟩ := cells_three_z k11.out
              have HB11 : Hid _ := hb11
              clear hb11 HC1
              go_wp2_with (go_at_call 18; fail)
              refine Calls.mono (HO1.out w11 HB11.out) ?_
              rintro e w12 ⟨mo, mc, rfl, hm12, hb12⟩
              have HB12 : Hid (Below w.heap.size w w12) := by
                have q := HBw.out.trans (HB11.out.mono HBw.out.size)
                exact q.trans (hb12.out.mono q.size)
              have HI12 : Hid (BoolsAt w12.heap.size w12 io (Nl.of g)) := (HIO.out.next HB11.out).next hb12.out
              generalize Nl.of ⟨g.terms, g.names, g.rules ++ [((g.terms.length : Int) + (mm : Int), xr)]⟩ = ms at *
              generalize hbs : Nl.of g = bs at *
              clear h0 h1 h2 k11 k10 HO1 HB11 HIO HBw HB10 HO10 hb12 hU
              go_wp2_with fail
              go_loop [16] (fun sv => ∃ s : Nat, s ≤ g.terms.length + g.names.length ∧ sv = .int .i64 s) (fun sv => g.terms.length + g.names.length - (intOf sv).toNat)
              case atStart => exact ⟨0, Nat.zero_le _, rfl⟩
              case round =>
                obtain ⟨s, hs, rfl⟩ := hrel
                by_cases hsl : s < g.terms.length + g.names.length
                · have hsi : (s : Int) < (g.terms.length : Int) + (g.names.length : Int) := by omega
                  have hs1 : s < bs.length := by rw [hlen]; exact hsl
                  have hs2 : s < ms.length := by rw [hlen2]; exact hsl
                  obtain ⟨ib, iq, hio, _, _, hc0⟩ := HI12.out.get s hs1
                  obtain ⟨jb, jq, hjo, _, _, hc1⟩ := hm12.out.get s hs2
                  subst hio
                  subst hjo
                  have hmo := HMO.out (s : Int)
                  rw [Nl.isAt_get (by omega) (by simpa using hs1), Nl.isAt_get (by omega) (by simpa using hs2)] at hmo
                  simp only [Int.toNat_natCast] at hmo
                  generalize bs[s] = b1 at *
                  generalize ms[s] = b2 at *
                  cases b1
                  · go_wp2_with fail
                    go_round
                    case rel => exact ⟨s + 1, by omega, by go_num⟩
                    case measure => simp [intOf]; omega
                  · obtain rfl : b2 = true := hmo rfl
                    clear hmo
                    go_wp2_with fail
                    go_round
                    case rel => exact ⟨s + 1, by omega, by go_num⟩
                    case measure => simp [intOf]; omega
                · have hsi : ¬ (s : Int) < (g.terms.length : Int) + (g.names.length : Int) := by omega
                  go_wp2_with (go_at_call 16; refine Calls.mono (nwakes_any _) ?_; rintro e w13 ⟨rfl, hb13⟩)
                  go_ret
                  exact ⟨rfl, HB12.out.trans (hb13.mono HB12.out.size)⟩

theorem u8_lt {x : Int} (h : (Lit.int .u8 x).wf = true) : 0 ≤ x ∧ x < 256 := by
  have h0 : decide (IntKind.u8.min ≤ x) && decide (x ≤ IntKind.u8.max) := h
  rw [Bool.and_eq_true, decide_eq_true_eq, decide_eq_true_eq, show IntKind.u8.min = 0 from rfl, show IntKind.u8.max = 255 from rfl] at h0
  omega

theorem nullableDerives_walk (g : Gr.Gm) (A : GA) (n : Int) (ao : Option Addr) (len c : Nat) (zs : List Int) (w : World) (h : GmAt w.heap.size w g A) (hr : ∀ r ∈ g.rules, r.2.length ≤ maxLen ∧ rlWf r) (hn : (Lit.int .u8 n).wf = true) (hz : IsRow .u8 w ao len c zs) :
    Calls Try.prog 6 #[.agg (gmCells g A), .int .u8 n, .slice ao len c] w fun e w' => e = .returned (.bool true) ∧ Below w.heap.size w w' := by
  have hm : ∀ r ∈ g.rules, r.2.length ≤ maxLen := fun r h => (hr r h).1
  obtain ⟨xs, rfl, hx, _, hwf⟩ := hz.read
  cases hl : Gr.large g
  · cases hg : Gr.good g
    · exact nullableDerives_out g A n ao c xs w h hm (.inr ⟨hl, .inl hg⟩)
    · by_cases h8 : 8 < xs.length
      · exact nullableDerives_out g A n ao c xs w h hm (.inr ⟨hl, .inr ⟨hg, .inl h8⟩⟩)
      · by_cases h60 : 60 ≤ g.rules.length
        · exact nullableDerives_out g A n ao c xs w h hm (.inr ⟨hl, .inr ⟨hg, .inr ⟨by omega, h60⟩⟩⟩)
        · exact nullableDerives_in g A n ao c xs w h hm hl hg (by omega) (by omega) (u8_lt hn) hx (fun x hx => u8_lt (hwf x hx))
  · exact nullableDerives_out g A n ao c xs w h hm (.inl hl)
end Go.Proofs.Ytimjopaedfefmaa
