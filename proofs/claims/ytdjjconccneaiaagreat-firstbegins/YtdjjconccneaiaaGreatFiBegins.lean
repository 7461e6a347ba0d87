/-
  The law FirstBegins, walked: it returns true, of every grammar and number.
-/
import Derived.Test.YtdjjconccneaiaaGreatFiMark
import Derived.Test.YtdjjconccneaiaaGreatFiBfs
import Derived.Test.YtdjjconccneaiaaGreatRuleLib
import Derived.Test.YtdjjconccneaiaaGreatGrRefGood
namespace Go.Proofs.YtdjjconccneaiaaGreat
open Go.RowKit Go.Conc

theorem Fi.isAt_take {b : List Bool} {T : Nat} (hT : T ≤ b.length) (x : Int) : Nl.isAt (b.take T) x = true ↔ Nl.isAt b x = true ∧ 0 ≤ x ∧ x < T := by
  constructor
  · intro h
    obtain ⟨h0, h1⟩ := Nl.isAt_lt h
    have h2 : x < T := by rw [List.length_take] at h1; omega
    rw [Nl.isAt_get h0 (by rw [List.length_take]; omega)] at h
    refine ⟨?_, h0, h2⟩
    rw [Nl.isAt_get h0 (by omega)]
    simpa using h
  · rintro ⟨h, h0, h1⟩
    rw [Nl.isAt_get h0 (by omega)] at h
    rw [Nl.isAt_get h0 (by rw [List.length_take]; omega)]
    simpa using h

set_option maxRecDepth 100000 in
set_option maxHeartbeats 3200000 in
theorem firstBegins_out (g : Gr.Gm) (A : GA) (n : Int) (w : World) (h : GmAt w.heap.size w g A) (hm : ∀ r ∈ g.rules, r.2.length ≤ maxLen) (hl : Gr.large g = true ∨ Gr.large g = false ∧ Gr.good g = false) :
    Calls Tryz.prog 5 #[.agg (gmCells g A), .int .u8 n] w fun e w' => e = .returned (.bool true) ∧ Below w.heap.size w w' := by
  obtain ⟨ta, tc, na, nc, ra, rc⟩ := A
  have hbW : Hid (Below w.heap.size w (w.alloc (Obj.cells #[.slice ta g.terms.length tc, .slice na g.names.length nc, .slice ra g.rules.length rc] 25))) := (Below.refl _ w).alloc (Nat.le_refl _) _
  have b0 : Hid ((w.alloc (Obj.cells #[.slice ta g.terms.length tc, .slice na g.names.length nc, .slice ra g.rules.length rc] 25)).heap[w.heap.size]? = some (.cells #[.slice ta g.terms.length tc, .slice na g.names.length nc, .slice ra g.rules.length rc] 25 (0, 0))) := heap_alloc_new w _
  have HLG : Hid (∀ (r : Bool) (W : World), Below w.heap.size w W → Gr.large g = r → Calls Tryz.prog 7 #[.agg (gmCells g ⟨ta, tc, na, nc, ra, rc⟩)] W fun e w' => e = .returned (.bool r) ∧ Below W.heap.size W w') := fun r W hW hl => large_is r g _ W hm (h.later hW).size hl
  have HGD : Hid (∀ (r : Bool) (W : World), Below w.heap.size w W → Gr.good g = r → Calls Tryz.prog 17 #[.agg (gmCells g ⟨ta, tc, na, nc, ra, rc⟩)] W fun e w' => e = .returned (.bool r) ∧ Below W.heap.size W w') := fun r W hW hr => refGood_any r g _ W hm (h.next hW) (by rw [Gr.refGood_is]; exact hr)
  simp only [gmCells] at HLG HGD ⊢
  clear h hm
  rcases hl with hl | ⟨hl, hg⟩
  · have HL1 : Hid (∀ _ : Unit, _) := fun _ => HLG.out true _ hbW.out hl
    clear HLG hl HGD
    go_enter Tryz.func5, Tryz.ntmps5
    go_wp2_with (first | (go_at_call 7; refine Calls.mono (HL1.out ()) ?_; rintro e w1 ⟨rfl, hb1⟩) | (go_at_call 8; refine Calls.mono (fwakes_any _) ?_; rintro e w3 ⟨rfl, hb3⟩))
    go_ret
    exact ⟨rfl, (hbW.out.trans (hb1.mono hbW.out.size)).trans (hb3.mono (hbW.out.trans (hb1.mono hbW.out.size)).size)⟩
  · have HL1 : Hid (∀ _ : Unit, _) := fun _ => HLG.out false _ hbW.out hl
    clear HLG hl
    have HG1 : Hid (∀ (W : World), Below w.heap.size w W → _) := fun W hW => HGD.out false W hW hg
    clear hg HGD
    go_enter Tryz.func5, Tryz.ntmps5
    go_wp2_with (go_at_call 7; fail)
    generalize (w.alloc (Obj.cells #[.slice ta g.terms.length tc, .slice na g.names.length nc, .slice ra g.rules.length rc] 25)) = W at *
    refine Calls.mono (HL1.out ()) ?_
    rintro e w1 ⟨rfl, hb1⟩
    have HB1 : Hid (Below w.heap.size w w1) := hbW.out.trans (hb1.mono hbW.out.size)
    obtain ⟨g0, g1, g2, _⟩ := cells_three_z ((hb1.block _ (Array.getElem?_eq_some_iff.1 b0.out).1).trans b0.out)
    clear hb1 b0 hbW HL1
    go_wp2_with (go_at_call 17; fail)
    refine Calls.mono (HG1.out _ HB1.out) ?_
    rintro e w2 ⟨rfl, hb2⟩
    have HB2 : Hid (Below w.heap.size w w2) := HB1.out.trans (hb2.mono HB1.out.size)
    clear g0 g1 g2 hb2 HB1 HG1
    go_wp2_with (go_at_call 8; refine Calls.mono (fwakes_any _) ?_; rintro e w3 ⟨rfl, hb3⟩)
    go_ret
    exact ⟨rfl, HB2.out.trans (hb3.mono HB2.out.size)⟩

set_option maxRecDepth 100000 in
set_option maxHeartbeats 25600000 in
theorem firstBegins_in (g : Gr.Gm) (A : GA) (n : Int) (w : World) (h : GmAt w.heap.size w g A) (hm : ∀ r ∈ g.rules, r.2.length ≤ maxLen) (hl : Gr.large g = false) (hg : Gr.good g = true) (hn : 0 ≤ n ∧ n < 256) :
    Calls Tryz.prog 5 #[.agg (gmCells g A), .int .u8 n] w fun e w' => e = .returned (.bool true) ∧ Below w.heap.size w w' := by
  obtain ⟨ta, tc, na, nc, ra, rc⟩ := A
  have HM : Hid _ := hm
  have HG : Hid (GmAt w.heap.size w g ⟨ta, tc, na, nc, ra, rc⟩) := h
  obtain ⟨hsz, h8⟩ := Nl.sizes_of hg
  have H8 : Hid _ := h8
  have HF0 := Nl.fit_of hg
  have hnl : (Nl.of g).length = g.terms.length + g.names.length := Nl.of_len hg
  have hsl : (Fi.setsG g).length = g.terms.length + g.names.length := Fi.setsG_len hg
  have SM : Hid (∀ (s : Nat) (_ : s < g.terms.length + g.names.length) (t : Int), t ∈ (Fi.setsG g).getD s [] ↔ Fi.Beg g.rules (Nl.of g) g.terms.length (s : Int) t) := fun s hs t => Fi.setsG_mem hg s hs t
  have SS : Hid (∀ (s : Nat) (_ : s < g.terms.length + g.names.length), (Fi.setsG g).getD s [] = Fi.rise ((Fi.tab g).getD s [])) := fun s hs => Fi.setsG_get hg s hs
  have HAL : Hid (∀ (W : World) (x : Int) (d : Nat) (r : Bool), Below w.heap.size w W → IntsAt W.heap.size W (some ⟨d, 0, none⟩) [x] → Nl.isAt (Nl.of g) x = r → Calls Tryz.prog 20 #[.agg (gmCells g ⟨ta, tc, na, nc, ra, rc⟩), .slice (some ⟨d, 0, none⟩) 1 1] W fun e w' => e = .returned (.bool r) ∧ Below W.heap.size W w') := fun W x d r hW hx hr =>
    nall_is r g _ [x] _ 1 W hm (h.next hW) hx (by simp) (by simp [Nl.all, hg, Nl.allIn, hr])
  have hbW : Hid (Below w.heap.size w (w.alloc (Obj.cells #[.slice ta g.terms.length tc, .slice na g.names.length nc, .slice ra g.rules.length rc] 25))) := (Below.refl _ w).alloc (Nat.le_refl _) _
  have b0 : Hid ((w.alloc (Obj.cells #[.slice ta g.terms.length tc, .slice na g.names.length nc, .slice ra g.rules.length rc] 25)).heap[w.heap.size]? = some (.cells #[.slice ta g.terms.length tc, .slice na g.names.length nc, .slice ra g.rules.length rc] 25 (0, 0))) := heap_alloc_new w _
  have HL1 : Hid (∀ (W : World), Below w.heap.size w W → Calls Tryz.prog 7 #[.agg (gmCells g ⟨ta, tc, na, nc, ra, rc⟩)] W fun e w' => e = .returned (.bool false) ∧ Below W.heap.size W w') := fun W hW => large_is false g _ W hm (h.later hW).size hl
  have HGD : Hid (∀ (W : World), Below w.heap.size w W → Calls Tryz.prog 17 #[.agg (gmCells g ⟨ta, tc, na, nc, ra, rc⟩)] W fun e w' => e = .returned (.bool true) ∧ Below W.heap.size W w') := fun W hW => refGood_any true g _ W hm (h.next hW) (by rw [Gr.refGood_is]; exact hg)
  have HSE : Hid (∀ (W : World), Below w.heap.size w W → Calls Tryz.prog 13 #[.agg (gmCells g ⟨ta, tc, na, nc, ra, rc⟩)] W fun e w' => ∃ xo xc, e = .returned (.slice xo (Fi.setsG g).length xc) ∧ Hid (LisAt w'.heap.size w' xo (Fi.setsG g)) ∧ Hid (Below W.heap.size W w')) := fun W hW => fsets_is g _ W hm (h.next hW)
  rw [hsl] at HSE
  simp only [gmCells] at HL1 HGD HSE HAL ⊢
  clear h hm h8 hg hl
  generalize hnn : g.terms.length + g.names.length = nn at *
  have HF : Hid (Nl.Fit g.terms.length nn g.rules) := HF0
  have hnI : (g.terms.length : Int) + (g.names.length : Int) = (nn : Int) := by omega
  obtain ⟨mm, hmm, hml⟩ : ∃ mm : Nat, n % (nn : Int) = (mm : Int) ∧ mm < nn := ⟨(n % (nn : Int)).toNat, by have := Int.emod_nonneg n (b := (nn : Int)) (by omega); omega, by have := Int.emod_lt_of_pos n (b := (nn : Int)) (by omega); have := Int.emod_nonneg n (b := (nn : Int)) (by omega); omega⟩
  have htm : n.tmod (nn : Int) = (mm : Int) := by rw [Int.tmod_eq_emod_of_nonneg hn.1]; exact hmm
  have hnz : ¬ (nn : Int) = 0 := by omega
  have hwn : IntKind.wrap .i64 n = n := by rw [IntKind.wrap_i64]; omega
  have hwm : IntKind.wrap .i64 (mm : Int) = (mm : Int) := by rw [IntKind.wrap_i64]; omega
  have hmi : (mm : Int) < (nn : Int) := by omega
  have hneq : ((nn : Int) != (nn : Int)) = false := by simp
  have hmb := make_boolsN nn (by omega)
  clear HF0
  go_enter Tryz.func5, Tryz.ntmps5
  go_wp2_with (go_at_call 7; fail)
  generalize (w.alloc (Obj.cells #[.slice ta g.terms.length tc, .slice na g.names.length nc, .slice ra g.rules.length rc] 25)) = W at *
  refine Calls.mono (HL1.out _ hbW.out) ?_
  rintro e w1 ⟨rfl, hb1⟩
  have b1 : Hid _ := (hb1.block _ (Array.getElem?_eq_some_iff.1 b0.out).1).trans b0.out
  have HB1 : Hid (Below w.heap.size w w1) := hbW.out.trans (hb1.mono hbW.out.size)
  obtain ⟨g0, g1, g2, _⟩ := cells_three_z b1.out
  clear hb1 b0 hbW HL1
  go_wp2_with (go_at_call 17; fail)
  refine Calls.mono (HGD.out _ HB1.out) ?_
  rintro e w2 ⟨rfl, hb2⟩
  have b2 : Hid _ := (hb2.block _ (Array.getElem?_eq_some_iff.1 b1.out).1).trans b1.out
  have HB2 : Hid (Below w.heap.size w w2) := HB1.out.trans (hb2.mono HB1.out.size)
  clear g0 g1 g2 hb2 HB1 HGD b1
  obtain ⟨g0, g1, g2, _⟩ := cells_three_z b2.out
  have hz2 := (Array.getElem?_eq_some_iff.1 b2.out).1
  go_wp2_with (go_at_call 13; fail)
  refine Calls.mono (HSE.out _ HB2.out) ?_
  rintro e w5 ⟨xo, xc, rfl, LG, hb5⟩
  have b5 : Hid _ := (hb5.out.block _ hz2).trans b2.out
  have HB5 : Hid (Below w.heap.size w w5) := HB2.out.trans (hb5.out.mono HB2.out.size)
  clear g0 g1 g2 hz2 hb5 HB2 b2 HSE
  obtain ⟨g0, g1, g2, _⟩ := cells_three_z b5.out
  have hz5 := (Array.getElem?_eq_some_iff.1 b5.out).1
  go_upto_region 9 with fail
  have hb6 : Hid (Below w5.heap.size w5 (w5.alloc (.cells (Array.replicate nn (Value.bool false)) 4))) := (Below.refl _ w5).alloc (Nat.le_refl _) _
  have a6 : Hid ((w5.alloc (.cells (Array.replicate nn (Value.bool false)) 4)).heap[w5.heap.size]? = some (.cells ((List.replicate nn false).map Value.bool).toArray 4 (0, 0))) := by
    show _ = _; rw [heap_alloc_new]; simp
  generalize (w5.alloc (.cells (Array.replicate nn (Value.bool false)) 4)) = W6 at *
  obtain ⟨M, hME⟩ : ∃ M, w5.heap.size = M := ⟨_, rfl⟩
  have ME : Hid (w5.heap.size = M) := hME
  have hMz : w.heap.size < M := by rw [← hME]; exact hz5
  rw [hME] at a6 hb6 LG ⊢
  have c6 : W6.cell? ⟨M, mm, none⟩ = some (.bool false) := by
    have := (bools_cell a6.out mm (by simp; exact hml)).1
    simpa using this
  have f6 : W6.frozen? ⟨M, mm, none⟩ = false := (bools_cell a6.out mm (by simp; exact hml)).2
  have hl6 := (Array.getElem?_eq_some_iff.1 a6.out).1
  have a7 : Hid ((W6.setCell ⟨M, mm, none⟩ (.bool true)).heap[M]? = some (.cells ((Nl.tell (List.replicate nn false) (mm : Int)).map Value.bool).toArray 4 (0, 0))) := by
    show _ = _
    have := bools_set a6.out mm true
    simpa [Nl.tell] using this
  have hb7 : Hid (Below M w5 (W6.setCell ⟨M, mm, none⟩ (.bool true))) := hb6.out.setCell (Nat.le_refl _) _
  clear g0 g1 g2 hz5 hME a6 hb6 hmb
  go_upto_region 10 with fail
  generalize (W6.setCell ⟨M, mm, none⟩ (.bool true)) = W7 at *
  clear c6 f6 hl6
  have hl7 := (Array.getElem?_eq_some_iff.1 a7.out).1
  have hb8 : Hid (Below M w5 (W7.alloc (Obj.cells #[.int .i64 (mm : Int)] 3))) := hb7.out.alloc (Nat.le_of_lt hl7) _
  have a8 : Hid ((W7.alloc (Obj.cells #[.int .i64 (mm : Int)] 3)).heap[M]? = some (.cells ((Nl.tell (List.replicate nn false) (mm : Int)).map Value.bool).toArray 4 (0, 0))) := (Below.heap_alloc _ _ _ hl7).trans a7.out
  have o8 : Hid (OwnInts M (W7.alloc (Obj.cells #[.int .i64 (mm : Int)] 3)) (.slice (some ⟨W7.heap.size, 0, none⟩) 1 1) [(mm : Int)]) :=
    ⟨rfl, .inr ⟨W7.heap.size, 1, #[.int .i64 (mm : Int)], rfl, Nat.le_of_lt hl7, heap_alloc_new _ _, Nat.le_refl _, by unfold maxLen; omega, rfl, rfl⟩⟩
  have s8 : Hid (Fi.Bfs nn g.rules (Nl.of g) (mm : Int) (Nl.tell (List.replicate nn false) (mm : Int)) [(mm : Int)] 0 0 0) := Fi.Bfs.begin (by omega) hmi
  go_upto_region 11 with fail
  generalize hW8 : (W7.alloc (Obj.cells #[.int .i64 (mm : Int)] 3)) = W8 at *
  clear hW8 a7 hb7 hl7
  have HBB : Hid (∀ W : World, Below M w5 W → Below w.heap.size w W ∧ W.heap[w.heap.size]? = some (.cells #[.slice ta g.terms.length tc, .slice na g.names.length nc, .slice ra g.rules.length rc] 25 (0, 0))) := fun W hW =>
    ⟨HB5.out.trans (hW.mono (Nat.le_of_lt hMz)), (hW.block _ hMz).trans b5.out⟩
  have HMZ : Hid (∀ W : World, Below M w5 W → M ≤ W.heap.size) := fun W hW => by
    have := hW.size
    rw [ME.out] at this; exact this
  go_wp2_with fail
  go_loopw [9, 10] (fun v iv wr => ∃ (i : Nat) (l : List Int) (inn : List Bool) (lo : Option Addr) (lc : Nat), i ≤ l.length ∧ v = .slice lo l.length lc ∧ iv = .int .i64 i ∧ Hid (Below M w5 wr) ∧ Hid (wr.heap[M]? = some (.cells (inn.map Value.bool).toArray 4 (0, 0))) ∧ Hid (OwnInts M wr (.slice lo l.length lc) l) ∧ Hid (Fi.Bfs nn g.rules (Nl.of g) (mm : Int) inn l i 0 0)) (fun _ iv _ => nn - (intOf iv).toNat)
  case atStart => exact ⟨0, [(mm : Int)], _, _, 1, Nat.zero_le _, rfl, rfl, hb8, a8, o8, s8⟩
  case round =>
    obtain ⟨i, l, inn, lo, lc, hi, rfl, rfl, hB, hA, hO, hS⟩ := hrel
    clear a8 o8 s8 hb8
    have hls := hS.out.small
    by_cases hil : i < l.length
    · have hii : (i : Int) < (l.length : Int) := by omega
      have hin : i < nn := by omega
      go_wp2_with fail
      go_loopw [9, 11] (fun v rv wr => ∃ (r : Nat) (l : List Int) (inn : List Bool) (lo : Option Addr) (lc : Nat), r ≤ g.rules.length ∧ v = .slice lo l.length lc ∧ rv = .int .i64 r ∧ i < l.length ∧ Hid (Below M w5 wr) ∧ Hid (wr.heap[M]? = some (.cells (inn.map Value.bool).toArray 4 (0, 0))) ∧ Hid (OwnInts M wr (.slice lo l.length lc) l) ∧ Hid (Fi.Bfs nn g.rules (Nl.of g) (mm : Int) inn l i r 0)) (fun _ rv _ => g.rules.length - (intOf rv).toNat)
      case atStart => exact ⟨0, l, inn, lo, lc, Nat.zero_le _, rfl, rfl, hil, hB, hA, hO, hS⟩
      case round =>
        obtain ⟨r, l, inn, lo, lc, hr, rfl, rfl, hil, hB, hA, hO, hS⟩ := hrel
        obtain ⟨HBw, hgb⟩ := HBB.out wr hB.out
        obtain ⟨g0, g1, g2, _⟩ := cells_three_z hgb
        have hgz := (Array.getElem?_eq_some_iff.1 hgb).1
        by_cases hrl : r < g.rules.length
        · have hri : (r : Int) < (g.rules.length : Int) := by omega
          have hmm2 : g.rules[r] ∈ g.rules := List.getElem_mem hrl
          have h8 := H8.out _ hmm2
          have hxin := HF.out.right _ hmm2
          have HADD : Hid (∀ (l : List Int) (inn : List Bool) (k : Nat) (_ : i < l.length) (hk : k < g.rules[r].2.length), Fi.Bfs nn g.rules (Nl.of g) (mm : Int) inn l i r k → l.getD i 0 = g.rules[r].1 → g.rules[r].2[k] ∈ Fi.heads (Nl.of g) g.rules[r].2 → 0 ≤ g.rules[r].2[k] ∧ g.rules[r].2[k] < nn → Nl.isAt inn g.rules[r].2[k] = false → Fi.Bfs nn g.rules (Nl.of g) (mm : Int) (Nl.tell inn g.rules[r].2[k]) (l ++ [g.rules[r].2[k]]) i r (k + 1)) := fun l inn k hi hk h e hh hx hn => h.add hi hrl hk (by rw [← e]; simp [List.getD_eq_getElem?_getD, hi]) hh hx.1 hx.2 hn
          have HSK : Hid (∀ (l : List Int) (inn : List Bool) (k : Nat) (hk : k < g.rules[r].2.length), Fi.Bfs nn g.rules (Nl.of g) (mm : Int) inn l i r k → Nl.isAt inn g.rules[r].2[k] = true → Fi.Bfs nn g.rules (Nl.of g) (mm : Int) inn l i r (k + 1)) := fun l inn k hk h hx => h.skip hrl hk hx
          have HRa : Hid (∀ (l : List Int) (inn : List Bool), Fi.Bfs nn g.rules (Nl.of g) (mm : Int) inn l i r 0 → i < l.length → l.getD i 0 ≠ g.rules[r].1 → Fi.Bfs nn g.rules (Nl.of g) (mm : Int) inn l i (r + 1) 0) := fun l inn h hi hne => h.rule fun hi' _ e => absurd (by rw [e]; simp [List.getD_eq_getElem?_getD, hi']) hne
          have HRb : Hid (∀ (l : List Int) (inn : List Bool) (k : Nat), Fi.Bfs nn g.rules (Nl.of g) (mm : Int) inn l i r k → (∀ x ∈ Fi.heads (Nl.of g) g.rules[r].2, x ∈ g.rules[r].2.take k) → Fi.Bfs nn g.rules (Nl.of g) (mm : Int) inn l i (r + 1) 0) := fun l inn k h a => h.rule fun _ _ _ => a
          have HRC : Hid (∀ W : World, Below w.heap.size w W → ∃ rb ro yo yc, ra = some ⟨rb, ro, none⟩ ∧ W.cell? ⟨rb, ro + r * 2, none⟩ = some (.int .i64 g.rules[r].1) ∧ W.cell? ⟨rb, ro + r * 2 + 1, none⟩ = some (.slice yo g.rules[r].2.length yc) ∧ IntsAt w.heap.size W yo g.rules[r].2) := fun W hW => by
            obtain ⟨rb, ro, yo, yc, e, _, _, y0, y1, yI, _⟩ := (HG.out.later hW).rules r hrl
            exact ⟨rb, ro, yo, yc, e, y0, y1, yI⟩
          clear hmm2
          generalize g.rules[r] = y at *
          obtain ⟨lf, rs⟩ := y
          simp only at h8 hxin HADD HSK HRa HRb HRC
          obtain ⟨rb, ro, yo, yc, rfl, y0, y1, yI⟩ := HRC.out wr HBw
          obtain ⟨lo2, lc2, e2, LI, _⟩ := OwnInts.read hO.out
          obtain ⟨rfl, rfl⟩ : lo = lo2 ∧ lc = lc2 := by
            simp only [Value.slice.injEq] at e2
            exact ⟨e2.1, e2.2.2⟩
          obtain ⟨lb, lof, rfl, _, _, l0⟩ := IntsAt.get LI i hil
          have hgd : l.getD i 0 = l[i] := by simp [List.getD_eq_getElem?_getD, hil]
          rw [← hgd] at l0
          have HC : Hid (∀ w1 : World, Lat wr.drew w1 → w1.cell? ⟨w.heap.size, 2, none⟩ = some (.slice (some ⟨rb, ro, none⟩) g.rules.length rc) ∧ w1.cell? ⟨rb, ro + r * 2, none⟩ = some (.int .i64 lf) ∧ w1.cell? ⟨lb, lof + i, none⟩ = some (.int .i64 (l.getD i 0))) := fun w1 hL => ⟨cell_later hL.of_drew g2, cell_later hL.of_drew y0, cell_later hL.of_drew l0⟩
          clear e2 LI hgd l0 y0 y1 yI HBw hgb
          obtain ⟨fi, hfi⟩ : ∃ fi, l.getD i 0 = fi := ⟨_, rfl⟩
          rw [hfi] at HC
          go_upto_region 17 with fail
          clear g0 g1 g2 hgz
          refine wp_region_lat [.val (.pointer (some ⟨w.heap.size, 2, none⟩)), .val (.slice (some ⟨rb, ro, none⟩) g.rules.length rc), .val (.int .i64 r), .val (.pointer (some ⟨rb, ro + r * 2, none⟩)), .val (.pointer (some ⟨rb, ro + r * 2, none⟩)), .val (.int .i64 lf), .val (.slice (some ⟨lb, lof, none⟩) l.length lc), .val (.int .i64 i), .val (.pointer (some ⟨lb, lof + i, none⟩)), .val (.int .i64 fi), .val (.bool (lf != fi))] [] (by kernel_rfl) (by kernel_rfl) rfl ?kept ?walk
          case kept => exact trivial
          case walk =>
            refine wpFacts_val (by rfl) (fun w1 hL hd K hK => ?_) ?_
            · go_simp
              exact hK _ (Lat.refl _)
            refine wpFacts_norm (by simp only [Act.put, List.setIfInBounds_toArray, List.set_cons_zero, List.set_cons_succ]; rfl) (by simp only [List.nil_append]; rfl) ?_
            refine wpFacts_val (by rfl) (fun w1 hL hd K hK => ?_) ?_
            · obtain ⟨d0, d1, d2⟩ := HC.out w1 hL
              go_simp
              exact hK _ (Lat.refl _)
            refine wpFacts_norm (by simp only [Act.put, List.setIfInBounds_toArray, List.set_cons_zero, List.set_cons_succ]; rfl) (by simp only [List.cons_append, List.nil_append]; rfl) ?_
            refine wpFacts_val (by rfl) (fun w1 hL hd K hK => ?_) ?_
            · go_simp
              exact hK _ (Lat.refl _)
            refine wpFacts_norm (by simp only [Act.put, List.setIfInBounds_toArray, List.set_cons_zero, List.set_cons_succ]; rfl) (by simp only [List.cons_append, List.nil_append]; rfl) ?_
            refine wpFacts_val (by rfl) (fun w1 hL hd K hK => ?_) ?_
            · go_simp
              exact hK _ (Lat.refl _)
            refine wpFacts_norm (by simp only [Act.put, List.setIfInBounds_toArray, List.set_cons_zero, List.set_cons_succ]; rfl) (by simp only [List.cons_append, List.nil_append]; rfl) ?_
            refine wpFacts_val (by rfl) (fun w1 hL hd K hK => ?_) ?_
            · go_simp
              exact hK _ (Lat.refl _)
            refine wpFacts_norm (by simp only [Act.put, List.setIfInBounds_toArray, List.set_cons_zero, List.set_cons_succ]; rfl) (by simp only [List.cons_append, List.nil_append]; rfl) ?_
            refine wpFacts_val (by rfl) (fun w1 hL hd K hK => ?_) ?_
            · obtain ⟨d0, d1, d2⟩ := HC.out w1 hL
              go_simp
              exact hK _ (Lat.refl _)
            refine wpFacts_norm (by simp only [Act.put, List.setIfInBounds_toArray, List.set_cons_zero, List.set_cons_succ]; rfl) (by simp only [List.cons_append, List.nil_append]; rfl) ?_
            refine wpFacts_val (by rfl) (fun w1 hL hd K hK => ?_) ?_
            · go_simp
              exact hK _ (Lat.refl _)
            refine wpFacts_norm (by simp only [Act.put, List.setIfInBounds_toArray, List.set_cons_zero, List.set_cons_succ]; rfl) (by simp only [List.cons_append, List.nil_append]; rfl) ?_
            refine wpFacts_val (by rfl) (fun w1 hL hd K hK => ?_) ?_
            · go_simp
              exact hK _ (Lat.refl _)
            refine wpFacts_norm (by simp only [Act.put, List.setIfInBounds_toArray, List.set_cons_zero, List.set_cons_succ]; rfl) (by simp only [List.cons_append, List.nil_append]; rfl) ?_
            refine wpFacts_val (by rfl) (fun w1 hL hd K hK => ?_) ?_
            · go_simp
              exact hK _ (Lat.refl _)
            refine wpFacts_norm (by simp only [Act.put, List.setIfInBounds_toArray, List.set_cons_zero, List.set_cons_succ]; rfl) (by simp only [List.cons_append, List.nil_append]; rfl) ?_
            refine wpFacts_val (by rfl) (fun w1 hL hd K hK => ?_) ?_
            · obtain ⟨d0, d1, d2⟩ := HC.out w1 hL
              go_simp
              exact hK _ (Lat.refl _)
            refine wpFacts_norm (by simp only [Act.put, List.setIfInBounds_toArray, List.set_cons_zero, List.set_cons_succ]; rfl) (by simp only [List.cons_append, List.nil_append]; rfl) ?_
            refine wpFacts_val (by rfl) (fun w1 hL hd K hK => ?_) ?_
            · go_simp
              exact hK _ (Lat.refl _)
            refine wpFacts_norm (by simp only [Act.put, List.setIfInBounds_toArray, List.set_cons_zero, List.set_cons_succ]; rfl) (by simp only [List.cons_append, List.nil_append]; rfl) ?_
            intro w1 hL ha
            clear ha
            have hLd : Hid (Below wr.heap.size wr w1) := hL.of_drew
            have hB1 : Hid (Below M w5 w1) := hB.out.trans (hLd.out.mono (HMZ.out _ hB.out))
            have hA1 : Hid _ := (hLd.out.block _ (Array.getElem?_eq_some_iff.1 hA.out).1).trans hA.out
            have hO1 : Hid (OwnInts M w1 (.slice (some ⟨lb, lof, none⟩) l.length lc) l) := ownsRow_below hO.out hLd.out
            clear hL HC hB hA hO hLd
            by_cases heq : lf = fi
            · have hne : (lf != fi) = false := by simp [heq]
              have GE0 : Hid (l.getD i 0 = lf) := by show _ = _; rw [hfi, heq]
              have P4 : Hid (Fi.hn (Nl.of g) rs = 0 + Fi.hn (Nl.of g) (rs.drop 0)) := by show _ = _; rw [List.drop_zero]; omega
              clear heq hfi
              rw [hne]
              go_wp2_with fail
              go_loopw [9, 12] (fun v kv wr => ∃ (k : Nat) (l : List Int) (inn : List Bool) (lo : Option Addr) (lc : Nat), k ≤ rs.length ∧ v = .slice lo l.length lc ∧ kv = .int .i64 k ∧ i < l.length ∧ Hid (l.getD i 0 = lf) ∧ Hid (Below M w5 wr) ∧ Hid (wr.heap[M]? = some (.cells (inn.map Value.bool).toArray 4 (0, 0))) ∧ Hid (OwnInts M wr (.slice lo l.length lc) l) ∧ Hid (Fi.Bfs nn g.rules (Nl.of g) (mm : Int) inn l i r k) ∧ Hid (Fi.hn (Nl.of g) rs = k + Fi.hn (Nl.of g) (rs.drop k))) (fun _ kv _ => rs.length - (intOf kv).toNat)
              case atStart => exact ⟨0, l, inn, _, lc, Nat.zero_le _, rfl, rfl, hil, GE0, hB1, hA1, hO1, hS, P4⟩
              case round =>
                obtain ⟨k, l, inn, lo, lc, hk, rfl, rfl, hil, GE, hB, hA, hO, hS, hH⟩ := hrel
                clear GE0 P4
                obtain ⟨HBw, hgb⟩ := HBB.out wr hB.out
                obtain ⟨g0, g1, g2, _⟩ := cells_three_z hgb
                have hgz := (Array.getElem?_eq_some_iff.1 hgb).1
                obtain ⟨rb2, ro2, yo2, yc2, e3, y0, y1, yI⟩ := HRC.out wr HBw
                obtain ⟨rfl, rfl⟩ : rb = rb2 ∧ ro = ro2 := by
                  simp only [Option.some.injEq, Addr.mk.injEq] at e3
                  exact ⟨e3.1, e3.2.1⟩
                clear e3 hgb
                by_cases hkl : k < rs.length
                · have hki : (k : Int) < (rs.length : Int) := by omega
                  obtain ⟨xb, xof, rfl, _, _, x0⟩ := IntsAt.get yI k hkl
                  have hHk := hH.out
                  rw [Fi.hn_drop hkl] at hHk
                  have hjh : rs[k] ∈ Fi.heads (Nl.of g) rs := by
                    rw [Fi.heads_take]
                    exact List.mem_take_iff_getElem.2 ⟨k, by omega, rfl⟩
                  have hx := hxin _ (List.getElem_mem hkl)
                  have HA2 : Hid (Nl.isAt inn rs[k] = false → Fi.Bfs nn g.rules (Nl.of g) (mm : Int) (Nl.tell inn rs[k]) (l ++ [rs[k]]) i r (k + 1)) := fun q => HADD.out l inn k hil hkl hS.out GE.out hjh hx q
                  have HS2 : Hid (Nl.isAt inn rs[k] = true → Fi.Bfs nn g.rules (Nl.of g) (mm : Int) inn l i r (k + 1)) := fun q => HSK.out l inn k hkl hS.out q
                  have HHk : Hid (Fi.hn (Nl.of g) rs = k + ((if Nl.isAt (Nl.of g) rs[k] = true then Fi.hn (Nl.of g) (rs.drop (k + 1)) else 0) + 1)) := hHk
                  have hil2 := hS.out.len
                  have hls := hS.out.small
                  clear hHk hjh hH yI
                  generalize rs[k] = x at *
                  obtain ⟨m, rfl⟩ : ∃ m : Nat, x = m := ⟨x.toNat, by omega⟩
                  have hmn : m < nn := by omega
                  have hmI : (m : Int) < (nn : Int) := by omega
                  have c0 := (bools_cell hA.out m (by omega)).1
                  have f0 := (bools_cell hA.out m (by omega)).2
                  have hMl := (Array.getElem?_eq_some_iff.1 hA.out).1
                  have e : Nl.isAt inn (m : Int) = inn[m]'(by omega) := by rw [Nl.isAt_get (by omega) (by simp; omega)]; simp
                  rw [e] at HA2 HS2
                  have AP : Hid ((wr.setCell ⟨M, m, none⟩ (.bool true)).heap[M]? = some (.cells ((Nl.tell inn (m : Int)).map Value.bool).toArray 4 (0, 0))) := by
                    show _ = _
                    have := bools_set hA.out m true
                    simpa [Nl.tell] using this
                  clear e
                  generalize inn[m]'(by omega) = z at *
                  cases z
                  · have S2 : Hid _ := HA2.out rfl
                    have hO2 : Hid (OwnInts M (wr.setCell ⟨M, m, none⟩ (.bool true)) (.slice lo l.length lc) l) := ownsRow_setCell_other hO.out (ownsRow_ne hO.out hA.out (by decide)) _
                    have hB2 : Hid (Below M w5 (wr.setCell ⟨M, m, none⟩ (.bool true))) := hB.out.setCell (Nat.le_refl _) _
                    clear HA2 HS2 hO hB hA hS
                    go_upto_region 24 with fail
                    generalize (wr.setCell ⟨M, m, none⟩ (.bool true)) = Wn at *
                    clear c0 f0 hMl x0 y0 y1 g0 g1 g2 hgz
                    have hb3 : Hid (Below Wn.heap.size Wn (Wn.alloc (Obj.cells #[.int .i64 (m : Int)] 3))) := (Below.refl _ Wn).alloc (Nat.le_refl _) _
                    have hO3 : Hid (OwnInts M (Wn.alloc (Obj.cells #[.int .i64 (m : Int)] 3)) (.slice lo l.length lc) l) := ownsRow_below hO2.out hb3.out
                    have hA3 : Hid _ := (hb3.out.block _ (Array.getElem?_eq_some_iff.1 AP.out).1).trans AP.out
                    have hB3 : Hid (Below M w5 (Wn.alloc (Obj.cells #[.int .i64 (m : Int)] 3))) := hB2.out.trans (hb3.out.mono (HMZ.out _ hB2.out))
                    have hMs : M ≤ (Wn.alloc (Obj.cells #[.int .i64 (m : Int)] 3)).heap.size := by have := (Array.getElem?_eq_some_iff.1 hA3.out).1; omega
                    go_upto_region 25 with (at_builtin; refine wpList_append_oint rfl _ _ rfl M _ l rfl hO3.out Wn.heap.size 1 (m : Int) rfl (by simp [go_sem]) (by omega) hMs ?_; intro ga cap w4 ho4 hg4)
                    have hO4 : Hid (OwnInts M w4 (.slice (some ⟨ga, 0, none⟩) (l ++ [(m : Int)]).length cap) (l ++ [(m : Int)])) := by
                      show OwnInts _ _ _ _
                      rw [List.length_append]; exact ho4
                    have hB4 : Hid (Below M w5 w4) := hB3.out.grown hg4 hMs (fun q hq => (hO3.out.lt q hq).1)
                    have hA4 : Hid _ := (hg4.block M (Array.getElem?_eq_some_iff.1 hA3.out).1 (fun q => ownsRow_ne hO3.out hA3.out (by decide) q.symm)).trans hA3.out
                    have hil3 : i < (l ++ [(m : Int)]).length := by rw [List.length_append]; omega
                    have GE1 : Hid ((l ++ [(m : Int)]).getD i 0 = lf) := by
                      show _ = _
                      rw [← GE.out]
                      simp [List.getD_eq_getElem?_getD, List.getElem?_append_left hil]
                    have GE := GE1
                    clear hO3 hA3 hB3 hO2 hB2 AP ho4 hg4 hb3 GE1 hMs
                    have hbx : Hid (Below w4.heap.size w4 (w4.alloc (Obj.cells #[.int .i64 (m : Int)] 3))) := (Below.refl _ w4).alloc (Nat.le_refl _) _
                    have hix : Hid (IntsAt (w4.alloc (Obj.cells #[.int .i64 (m : Int)] 3)).heap.size (w4.alloc (Obj.cells #[.int .i64 (m : Int)] 3)) (some ⟨w4.heap.size, 0, none⟩) [(m : Int)]) := ints_new w4 [(m : Int)] 3
                    have hBx : Hid (Below M w5 (w4.alloc (Obj.cells #[.int .i64 (m : Int)] 3))) := hB4.out.trans (hbx.out.mono (HMZ.out _ hB4.out))
                    have hAx : Hid _ := (hbx.out.block _ (Array.getElem?_eq_some_iff.1 hA4.out).1).trans hA4.out
                    have hOx : Hid (OwnInts M _ _ _) := ownsRow_below hO4.out hbx.out
                    have hgx := (HBB.out w4 hB4.out).2
                    obtain ⟨q0, q1, q2, _⟩ := cells_three_z hgx
                    have hqz := (Array.getElem?_eq_some_iff.1 hgx).1
                    clear hgx
                    cases hy : Nl.isAt (Nl.of g) (m : Int)
                    · have HA1 : Hid _ := HAL.out _ (m : Int) w4.heap.size false (HBB.out _ hBx.out).1 hix.out hy
                      rw [hy] at HHk
                      have N2 : Hid _ := HRb.out _ _ (k + 1) S2.out (fun z hz => by rw [Fi.heads_take, HHk.out] at hz; simpa using hz)
                      clear hix hbx hO4 hA4 hB4 S2 HHk hy
                      go_wp2_with (go_at_call 20; fail)
                      generalize (w4.alloc (Obj.cells #[.int .i64 (m : Int)] 3)) = Wx at *
                      refine Calls.mono HA1.out ?_
                      rintro e wy ⟨rfl, hby⟩
                      have hBy : Hid (Below M w5 wy) := hBx.out.trans (hby.mono (HMZ.out _ hBx.out))
                      have hAy : Hid _ := (hby.block _ (Array.getElem?_eq_some_iff.1 hAx.out).1).trans hAx.out
                      have hOy : Hid (OwnInts M wy (.slice (some ⟨ga, 0, none⟩) (l ++ [(m : Int)]).length cap) (l ++ [(m : Int)])) := ownsRow_below hOx.out hby
                      clear hBx hAx hOx hby HA1 q0 q1 q2 hqz
                      go_wp2_with fail
                      go_roundw
                      case rel => exact ⟨r + 1, l ++ [(m : Int)], _, some ⟨ga, 0, none⟩, cap, by omega, by first | rfl | simp, by go_num, hil3, hBy, hAy, by first | exact hOy | simpa using hOy, N2⟩
                      case measure => simp [intOf]; omega
                    · have HA1 : Hid _ := HAL.out _ (m : Int) w4.heap.size true (HBB.out _ hBx.out).1 hix.out hy
                      rw [hy] at HHk
                      have N2 : Hid (Fi.hn (Nl.of g) rs = (k + 1 : Nat) + Fi.hn (Nl.of g) (rs.drop (k + 1))) := by show _ = _; rw [HHk.out]; simp; omega
                      clear hix hbx hO4 hA4 hB4 HHk hy
                      go_wp2_with (go_at_call 20; fail)
                      generalize (w4.alloc (Obj.cells #[.int .i64 (m : Int)] 3)) = Wx at *
                      refine Calls.mono HA1.out ?_
                      rintro e wy ⟨rfl, hby⟩
                      have hBy : Hid (Below M w5 wy) := hBx.out.trans (hby.mono (HMZ.out _ hBx.out))
                      have hAy : Hid _ := (hby.block _ (Array.getElem?_eq_some_iff.1 hAx.out).1).trans hAx.out
                      have hOy : Hid (OwnInts M wy (.slice (some ⟨ga, 0, none⟩) (l ++ [(m : Int)]).length cap) (l ++ [(m : Int)])) := ownsRow_below hOx.out hby
                      clear hBx hAx hOx hby HA1 q0 q1 q2 hqz
                      go_wp2_with fail
                      go_roundw
                      case rel => exact ⟨k + 1, l ++ [(m : Int)], _, some ⟨ga, 0, none⟩, cap, by omega, by first | rfl | simp, by go_num, hil3, GE, hBy, hAy, by first | exact hOy | simpa using hOy, S2, N2⟩
                      case measure => simp [intOf]; omega
                  · have S2 : Hid _ := HS2.out rfl
                    clear HA2 HS2 AP hS
                    go_upto_region 25 with fail
                    clear c0 f0 hMl x0 y0 y1 g0 g1 g2 hgz
                    have hbx : Hid (Below wr.heap.size wr (wr.alloc (Obj.cells #[.int .i64 (m : Int)] 3))) := (Below.refl _ wr).alloc (Nat.le_refl _) _
                    have hix : Hid (IntsAt (wr.alloc (Obj.cells #[.int .i64 (m : Int)] 3)).heap.size (wr.alloc (Obj.cells #[.int .i64 (m : Int)] 3)) (some ⟨wr.heap.size, 0, none⟩) [(m : Int)]) := ints_new wr [(m : Int)] 3
                    have hBx : Hid (Below M w5 (wr.alloc (Obj.cells #[.int .i64 (m : Int)] 3))) := hB.out.trans (hbx.out.mono (HMZ.out _ hB.out))
                    have hAx : Hid _ := (hbx.out.block _ (Array.getElem?_eq_some_iff.1 hA.out).1).trans hA.out
                    have hOx : Hid (OwnInts M _ _ _) := ownsRow_below hO.out hbx.out
                    have hgx := (HBB.out wr hB.out).2
                    obtain ⟨q0, q1, q2, _⟩ := cells_three_z hgx
                    have hqz := (Array.getElem?_eq_some_iff.1 hgx).1
                    clear hgx
                    cases hy : Nl.isAt (Nl.of g) (m : Int)
                    · have HA1 : Hid _ := HAL.out _ (m : Int) wr.heap.size false (HBB.out _ hBx.out).1 hix.out hy
                      rw [hy] at HHk
                      have N2 : Hid _ := HRb.out _ _ (k + 1) S2.out (fun z hz => by rw [Fi.heads_take, HHk.out] at hz; simpa using hz)
                      clear hix hbx hO hA hB S2 HHk hy
                      go_wp2_with (go_at_call 20; fail)
                      generalize (wr.alloc (Obj.cells #[.int .i64 (m : Int)] 3)) = Wx at *
                      refine Calls.mono HA1.out ?_
                      rintro e wy ⟨rfl, hby⟩
                      have hBy : Hid (Below M w5 wy) := hBx.out.trans (hby.mono (HMZ.out _ hBx.out))
                      have hAy : Hid _ := (hby.block _ (Array.getElem?_eq_some_iff.1 hAx.out).1).trans hAx.out
                      have hOy : Hid (OwnInts M wy (.slice lo (l).length lc) (l)) := ownsRow_below hOx.out hby
                      clear hBx hAx hOx hby HA1 q0 q1 q2 hqz
                      go_wp2_with fail
                      go_roundw
                      case rel => exact ⟨r + 1, l, _, lo, lc, by omega, by first | rfl | simp, by go_num, hil, hBy, hAy, by first | exact hOy | simpa using hOy, N2⟩
                      case measure => simp [intOf]; omega
                    · have HA1 : Hid _ := HAL.out _ (m : Int) wr.heap.size true (HBB.out _ hBx.out).1 hix.out hy
                      rw [hy] at HHk
                      have N2 : Hid (Fi.hn (Nl.of g) rs = (k + 1 : Nat) + Fi.hn (Nl.of g) (rs.drop (k + 1))) := by show _ = _; rw [HHk.out]; simp; omega
                      clear hix hbx hO hA hB HHk hy
                      go_wp2_with (go_at_call 20; fail)
                      generalize (wr.alloc (Obj.cells #[.int .i64 (m : Int)] 3)) = Wx at *
                      refine Calls.mono HA1.out ?_
                      rintro e wy ⟨rfl, hby⟩
                      have hBy : Hid (Below M w5 wy) := hBx.out.trans (hby.mono (HMZ.out _ hBx.out))
                      have hAy : Hid _ := (hby.block _ (Array.getElem?_eq_some_iff.1 hAx.out).1).trans hAx.out
                      have hOy : Hid (OwnInts M wy (.slice lo (l).length lc) (l)) := ownsRow_below hOx.out hby
                      clear hBx hAx hOx hby HA1 q0 q1 q2 hqz
                      go_wp2_with fail
                      go_roundw
                      case rel => exact ⟨k + 1, l, _, lo, lc, by omega, by first | rfl | simp, by go_num, hil, GE, hBy, hAy, by first | exact hOy | simpa using hOy, S2, N2⟩
                      case measure => simp [intOf]; omega
                · obtain rfl : k = rs.length := by omega
                  have hki : ¬ (rs.length : Int) < (rs.length : Int) := by omega
                  have N2 : Hid _ := HRb.out l inn rs.length hS.out (fun z hz => by rw [List.take_length]; exact Fi.heads_mem hz)
                  clear hS hH
                  go_wp2_with fail
                  go_roundw
                  case rel => exact ⟨r + 1, l, inn, lo, lc, by omega, rfl, by go_num, hil, hB, hA, hO, N2⟩
                  case measure => simp [intOf]; omega
            · have hne : (lf != fi) = true := by simp [heq]
              have N2 : Hid _ := HRa.out l inn hS.out hil (by rw [hfi]; exact fun q => heq q.symm)
              clear heq hfi hS
              rw [hne]
              go_wp2_with fail
              go_roundw
              case rel => exact ⟨r + 1, l, inn, _, lc, by omega, rfl, by go_num, hil, hB1, hA1, hO1, N2⟩
              case measure => simp [intOf]; omega
        · obtain rfl : r = g.rules.length := by omega
          have hri : ¬ (g.rules.length : Int) < (g.rules.length : Int) := by omega
          have N2 : Hid _ := hS.out.next
          clear hS hgb
          go_wp2_with fail
          go_roundw
          case rel => exact ⟨i + 1, l, inn, lo, lc, by omega, rfl, by go_num, hB, hA, hO, N2⟩
          case measure => simp [intOf]; omega
    · obtain rfl : i = l.length := by omega
      have hii : ¬ (l.length : Int) < (l.length : Int) := by omega
      obtain ⟨HBw, hgb⟩ := HBB.out wr hB.out
      obtain ⟨g0, g1, g2, _⟩ := cells_three_z hgb
      have hgz := (Array.getElem?_eq_some_iff.1 hgb).1
      have hsm : mm < (Fi.setsG g).length := by omega
      obtain ⟨xb, xof, rx, cx, rfl, _, _, x0, xI⟩ := (LG.out.later hB.out) mm hsm
      have XI : Hid (IntsAt wr.heap.size wr rx (Fi.setsG g)[mm]) := IntsAt.size xI
      have hTn : g.terms.length ≤ nn := by omega
      have hMl := (Array.getElem?_eq_some_iff.1 hA.out).1
      have hlt : (inn.take g.terms.length).length = g.terms.length := by rw [List.length_take, hS.out.len]; omega
      have hBL : Hid (BoolsAt wr.heap.size wr (some ⟨M, 0, none⟩) (inn.take g.terms.length)) := by
        show BoolsAt _ _ _ _
        intro k hk
        have hk2 : k < inn.length := by simp at hk; omega
        refine ⟨M, 0, rfl, hMl, hMl, ?_⟩
        have := (bools_cell hA.out k hk2).1
        simpa using this
      have RE : Fi.rise (inn.take g.terms.length) = (Fi.setsG g)[mm] := by
        have e : (Fi.setsG g).getD mm [] = (Fi.setsG g)[mm] := by simp [List.getD_eq_getElem?_getD, hsm]
        rw [← e, SS.out mm hml]
        refine Fi.rising_ext (Fi.rise_sorted _) (Fi.rise_sorted _) fun x => ?_
        rw [← SS.out mm hml, SM.out mm hml, Fi.beg_goes, Fi.mem_rise, Fi.isAt_take (by rw [hS.out.len]; exact hTn), hS.out.end]
      have HSM : Hid (∀ w1 : World, Lat wr.drew w1 → Calls Tryz.prog 19 #[.slice (some ⟨M, 0, none⟩) g.terms.length nn, .slice rx ((Fi.setsG g)[mm]).length cx] w1 fun e w' => e = .returned (.bool true) ∧ w' = w1) := fun w1 hL => by
        have := same_any (inn.take g.terms.length) (Fi.setsG g)[mm] (some ⟨M, 0, none⟩) rx nn cx w1 (BoolsAt.size (BoolsAt.later hBL.out hL.of_drew)) (IntsAt.size (IntsAt.later XI.out hL.of_drew)) RE (by rw [hlt]; omega)
        rw [hlt] at this
        exact this
      have HC : Hid (∀ w1 : World, Lat wr.drew w1 → w1.cell? ⟨w.heap.size, 0, none⟩ = some (.slice ta g.terms.length tc) ∧ w1.cell? ⟨xb, xof + mm, none⟩ = some (.slice rx ((Fi.setsG g)[mm]).length cx)) := fun w1 hL => ⟨cell_later hL.of_drew g0, cell_later hL.of_drew x0⟩
      have hTi : (g.terms.length : Int) ≤ (nn : Int) := by omega
      clear hS hO hBL XI xI RE hlt x0 hgb SM SS HAL LG H8 HF HM hA hMl hB
      generalize (Fi.setsG g)[mm] = sv at *
      clear hsm
      go_upto_region 26 with fail
      clear g0 g1 g2 hgz
      refine wp_region_lat [.val (.slice (some ⟨M, 0, none⟩) nn nn), .val (.pointer (some ⟨w.heap.size, 0, none⟩)), .val (.slice ta g.terms.length tc), .val (.int .i64 (g.terms.length : Int)), .val (.slice (some ⟨M, 0, none⟩) g.terms.length nn), .val (.slice (some ⟨xb, xof, none⟩) nn xc), .val (.int .i64 mm), .val (.pointer (some ⟨xb, xof + mm, none⟩)), .val (.slice rx sv.length cx), .val (.bool true), .val (.bool true), .val (.bool true), .val (.bool true)] [_] (by kernel_rfl) (by kernel_rfl) rfl ?kept ?walk
      case kept => exact trivial
      case walk =>
        refine wpFacts_val (by rfl) (fun w1 hL hd K hK => ?_) ?_
        · go_simp
          exact hK _ (Lat.refl _)
        refine wpFacts_norm (by simp only [Act.put, List.setIfInBounds_toArray, List.set_cons_zero, List.set_cons_succ]; rfl) (by simp only [List.nil_append]; rfl) ?_
        refine wpFacts_val (by rfl) (fun w1 hL hd K hK => ?_) ?_
        · go_simp
          exact hK _ (Lat.refl _)
        refine wpFacts_norm (by simp only [Act.put, List.setIfInBounds_toArray, List.set_cons_zero, List.set_cons_succ]; rfl) (by simp only [List.cons_append, List.nil_append]; rfl) ?_
        refine wpFacts_val (by rfl) (fun w1 hL hd K hK => ?_) ?_
        · obtain ⟨d0, d1⟩ := HC.out w1 hL
          go_simp
          exact hK _ (Lat.refl _)
        refine wpFacts_norm (by simp only [Act.put, List.setIfInBounds_toArray, List.set_cons_zero, List.set_cons_succ]; rfl) (by simp only [List.cons_append, List.nil_append]; rfl) ?_
        refine wpFacts_val (by rfl) (fun w1 hL hd K hK => ?_) ?_
        · go_simp
          exact hK _ (Lat.refl _)
        refine wpFacts_norm (by simp only [Act.put, List.setIfInBounds_toArray, List.set_cons_zero, List.set_cons_succ]; rfl) (by simp only [List.cons_append, List.nil_append]; rfl) ?_
        refine wpFacts_val (by rfl) (fun w1 hL hd K hK => ?_) ?_
        · go_simp
          exact hK _ (Lat.refl _)
        refine wpFacts_norm (by simp only [Act.put, List.setIfInBounds_toArray, List.set_cons_zero, List.set_cons_succ]; rfl) (by simp only [List.cons_append, List.nil_append]; rfl) ?_
        refine wpFacts_val (by rfl) (fun w1 hL hd K hK => ?_) ?_
        · go_simp
          exact hK _ (Lat.refl _)
        refine wpFacts_norm (by simp only [Act.put, List.setIfInBounds_toArray, List.set_cons_zero, List.set_cons_succ]; rfl) (by simp only [List.cons_append, List.nil_append]; rfl) ?_
        refine wpFacts_val (by rfl) (fun w1 hL hd K hK => ?_) ?_
        · go_simp
          exact hK _ (Lat.refl _)
        refine wpFacts_norm (by simp only [Act.put, List.setIfInBounds_toArray, List.set_cons_zero, List.set_cons_succ]; rfl) (by simp only [List.cons_append, List.nil_append]; rfl) ?_
        refine wpFacts_val (by rfl) (fun w1 hL hd K hK => ?_) ?_
        · go_simp
          exact hK _ (Lat.refl _)
        refine wpFacts_norm (by simp only [Act.put, List.setIfInBounds_toArray, List.set_cons_zero, List.set_cons_succ]; rfl) (by simp only [List.cons_append, List.nil_append]; rfl) ?_
        refine wpFacts_val (by rfl) (fun w1 hL hd K hK => ?_) ?_
        · obtain ⟨d0, d1⟩ := HC.out w1 hL
          go_simp
          exact hK _ (Lat.refl _)
        refine wpFacts_norm (by simp only [Act.put, List.setIfInBounds_toArray, List.set_cons_zero, List.set_cons_succ]; rfl) (by simp only [List.cons_append, List.nil_append]; rfl) ?_
        refine wpFacts_val (by rfl) (fun w1 hL hd K hK => ?_) ?_
        · go_simp
          refine Calls.mono (HSM.out w1 hL) ?_
          rintro e w9 ⟨rfl, rfl⟩
          exact hK _ (Below.refl _ _)
        refine wpFacts_norm (by simp only [Act.put, List.setIfInBounds_toArray, List.set_cons_zero, List.set_cons_succ]; rfl) (by simp only [List.cons_append, List.nil_append]; rfl) ?_
        refine wpFacts_val (by rfl) (fun w1 hL hd K hK => ?_) ?_
        · go_simp
          exact hK _ (Lat.refl _)
        refine wpFacts_norm (by simp only [Act.put, List.setIfInBounds_toArray, List.set_cons_zero, List.set_cons_succ]; rfl) (by simp only [List.cons_append, List.nil_append]; rfl) ?_
        refine wpFacts_val (by rfl) (fun w1 hL hd K hK => ?_) ?_
        · go_simp
          refine Calls.mono (fwakes_any w1) ?_
          rintro e w9 ⟨rfl, hb9⟩
          exact hK _ hb9
        refine wpFacts_norm (by simp only [Act.put, List.setIfInBounds_toArray, List.set_cons_zero, List.set_cons_succ]; rfl) (by simp only [List.cons_append, List.nil_append]; rfl) ?_
        refine wpFacts_val (by rfl) (fun w1 hL hd K hK => ?_) ?_
        · go_simp
          exact hK _ (Lat.refl _)
        refine wpFacts_norm (by simp only [Act.put, List.setIfInBounds_toArray, List.set_cons_zero, List.set_cons_succ]; rfl) (by simp only [List.cons_append, List.nil_append]; rfl) ?_
        intro w1 hL ha
        have HBf : Hid (Below w.heap.size w w1) := HBw.trans (Below.mono hL.of_drew HBw.size)
        clear ha hL HSM HC HBw HBB
        go_wp2_with fail
        go_ret
        exact ⟨rfl, HBf.out⟩
theorem firstBegins_walk (g : Gr.Gm) (A : GA) (n : Int) (w : World) (h : GmAt w.heap.size w g A) (hr : ∀ r ∈ g.rules, r.2.length ≤ maxLen ∧ rlWf r) (hn : (Lit.int .u8 n).wf = true) :
    Calls Tryz.prog 5 #[.agg (gmCells g A), .int .u8 n] w fun e w' => e = .returned (.bool true) ∧ Below w.heap.size w w' := by
  have hm : ∀ r ∈ g.rules, r.2.length ≤ maxLen := fun r h => (hr r h).1
  cases hl : Gr.large g
  · cases hg : Gr.good g
    · exact firstBegins_out g A n w h hm (.inr ⟨hl, hg⟩)
    · exact firstBegins_in g A n w h hm hl hg (u8_lt hn)
  · exact firstBegins_out g A n w h hm (.inl hl)
end Go.Proofs.YtdjjconccneaiaaGreat
