/-
  The law GrammarTells, walked: it returns true, of every text, grammar and number.
-/
import Derived.Test.YtnphfhoknnnciaaGrRefOf
import Derived.Test.YtnphfhoknnnciaaGrRefGood
import Derived.Test.YtnphfhoknnnciaaGrKeeps
import Derived.Test.YtnphfhoknnnciaaGrWakes
import Derived.Test.YtnphfhoknnnciaaGrOpen
namespace Go.Proofs.Ytnphfhoknnnciaa
open Go.RowKit

theorem of_small {xs : List Rd.Al} {g : Gr.Gm} (hl : xs.length ≤ 60) (h8 : ∀ x ∈ xs, x.2.length ≤ 8) (h : Gr.of xs = .ok g) : (g.terms.length ≤ 4000 ∧ g.names.length ≤ 4000 ∧ g.rules.length ≤ 4000) ∧ ∀ r ∈ g.rules, r.2.length ≤ 4000 := by
  unfold Gr.of at h
  split at h
  · cases h
  · split at h
    · cases h
    · cases h
      have h1 := Gr.names_len xs xs.length
      have h2 := Gr.terms_len xs h8 xs.length
      have h3 := Gr.rules_len (Gr.terms xs) (Gr.names xs) xs xs.length
      have h4 := Gr.rules_right (Gr.terms xs) (Gr.names xs) xs h8 xs.length
      rw [List.take_length] at h1 h2 h3 h4
      refine ⟨⟨by simp only; omega, by simp only; omega, by simp only; omega⟩, fun r hr => ?_⟩
      have := h4 r hr
      omega

theorem ofS_small (l : List UInt8) {E At : Int} {g : Gr.Gm} (h : ofS l = (E, At, g)) : (g.terms.length ≤ 4000 ∧ g.names.length ≤ 4000 ∧ g.rules.length ≤ 4000) ∧ ∀ r ∈ g.rules, r.2.length ≤ 4000 := by
  have Z : (((⟨[], [], []⟩ : Gr.Gm).terms.length ≤ 4000 ∧ (⟨[], [], []⟩ : Gr.Gm).names.length ≤ 4000 ∧ (⟨[], [], []⟩ : Gr.Gm).rules.length ≤ 4000) ∧ ∀ r ∈ (⟨[], [], []⟩ : Gr.Gm).rules, r.2.length ≤ 4000) :=
    ⟨⟨Nat.zero_le _, Nat.zero_le _, Nat.zero_le _⟩, fun r hr => by simp at hr⟩
  unfold ofS Gr.ofG at h
  rcases toksOf_cases l with ⟨us, ht, hl, hE⟩ | ⟨n, a, hn, ha, hE, hG⟩
  · rcases Rd.altsG_cases (us.map tkOf) l.length with ⟨xs, h1, h2, h3, h4⟩ | ⟨⟨en, ea⟩, h1, h2, h3⟩
    · have hsm := Rd.altsG_small h2
      rw [hE] at h
      simp only [h2] at h
      cases ho : Gr.of xs with
      | error er => rw [ho] at h; simp at h; obtain ⟨_, _, rfl⟩ := h; exact Z
      | ok g' => rw [ho] at h; simp at h; obtain ⟨_, _, rfl⟩ := h; exact of_small hsm.1 hsm.2 ho
    · rw [hE] at h
      simp only at h2 h3
      have : en ≠ 0 := by omega
      simp [h2, this] at h
      obtain ⟨_, _, rfl⟩ := h
      exact Z
  · rw [hE] at h
    rcases hn with rfl | rfl
    · simp at h; obtain ⟨_, _, rfl⟩ := h; exact Z
    · simp at h; obtain ⟨_, _, rfl⟩ := h; exact Z

theorem refOf_is (s : ByteArray) (E At : Int) (g : Gr.Gm) (w : World) (hs : s.size ≤ maxLen) (HG : Hid (ofS s.data.toList = (E, At, g))) :
    Calls Try.prog 11 #[.string s] w fun e w' => ∃ A, e = .returned (.agg #[.slice A.ta g.terms.length A.tc, .slice A.na g.names.length A.nc, .slice A.ra g.rules.length A.rc, .int .i64 E, .int .i64 At]) ∧ Hid (Below w.heap.size w w') ∧ Hid (GmOwn w.heap.size w' g A) := by
  refine (refOf_any s w hs).mono ?_
  rintro e w1 ⟨hb, A, rfl, hown⟩
  rw [HG.out] at hown ⊢
  exact ⟨A, rfl, hb, hown⟩

/-- a block, as it is in a later world -/
theorem blk_later {w w' : World} {b : Nat} {o : Obj} (h : w.heap[b]? = some o) (hb : Below w.heap.size w w') : w'.heap[b]? = some o := by
  rw [hb.block _ (Array.getElem?_eq_some_iff.1 h).1]; exact h

set_option maxRecDepth 100000 in
set_option maxHeartbeats 6400000 in
theorem grammarTells_walk (s : ByteArray) (g : Gr.Gm) (A : GA) (sy : Int) (w : World) (hs : s.size ≤ maxLen) (h : GmAt w.heap.size w g A) (hr : ∀ r ∈ g.rules, r.2.length ≤ maxLen ∧ rlWf r) (_ : (Lit.int .i64 sy).wf = true) :
    Calls Try.prog 3 #[.string s, .agg (gmCells g A), .int .i64 sy] w fun e w' => e = .returned (.bool true) ∧ Below w.heap.size w w' := by
  have hm : ∀ r ∈ g.rules, r.2.length ≤ maxLen := fun r h => (hr r h).1
  have hs' : s.size ≤ 9223372036854775807 := hs
  obtain ⟨ta, tc, na, nc, ra, rc⟩ := A
  have HG : Hid (GmAt w.heap.size w g ⟨ta, tc, na, nc, ra, rc⟩) := h
  have hbW : Hid (Below w.heap.size w (w.alloc (Obj.cells #[.slice ta g.terms.length tc, .slice na g.names.length nc, .slice ra g.rules.length rc] 25))) := (Below.refl _ w).alloc (Nat.le_refl _) _
  have b0 : Hid ((w.alloc (Obj.cells #[.slice ta g.terms.length tc, .slice na g.names.length nc, .slice ra g.rules.length rc] 25)).heap[w.heap.size]? = some (.cells #[.slice ta g.terms.length tc, .slice na g.names.length nc, .slice ra g.rules.length rc] 25 (0, 0))) := heap_alloc_new w _
  have hWs : Hid ((w.alloc (Obj.cells #[.slice ta g.terms.length tc, .slice na g.names.length nc, .slice ra g.rules.length rc] 25)).heap.size = w.heap.size + 1) := by show _ = _; simp
  have HLG : Hid (∀ (r : Bool) (W : World), Below w.heap.size w W → Gr.large g = r → Calls Try.prog 8 #[.agg (gmCells g ⟨ta, tc, na, nc, ra, rc⟩)] W fun e w' => e = .returned (.bool r) ∧ Below W.heap.size W w') := fun r W hW hl => large_is r g _ W hm (h.later hW).size hl
  by_cases h4 : 4000 < s.size
  · have h4i : (4000 : Int) < (s.size : Int) := by omega
    clear HLG h hr hm h4
    simp only [gmCells]
    go_enter Try.func3, Try.ntmps3
    go_wp2_with (first | (go_at_call 9; refine (gwakes_any _).mono ?_; rintro e w3 ⟨rfl, hb3⟩))
    go_ret
    exact ⟨rfl, hbW.out.trans (hb3.mono hbW.out.size)⟩
  · have h4d : decide ((4000 : Int) < (s.size : Int)) = false := decide_eq_false (by omega)
    cases hl : Gr.large g
    · have HL1 : Hid (∀ (W : World), Below w.heap.size w W → _) := fun W hW => HLG.out false W hW hl
      obtain ⟨l1, l2, l3, l4, l5, l6⟩ := Gr.large_no hl
      obtain ⟨E, At, gg, HOF⟩ : ∃ E At gg, Hid (ofS s.data.toList = (E, At, gg)) := ⟨_, _, _, rfl⟩
      obtain ⟨hz1, hz2⟩ := ofS_small _ HOF.out
      have HZ : Hid ((gg.terms.length ≤ 4000 ∧ gg.names.length ≤ 4000 ∧ gg.rules.length ≤ 4000) ∧ ∀ r ∈ gg.rules, r.2.length ≤ 4000) := ⟨hz1, hz2⟩
      have HOW : Hid (∀ W, Below w.heap.size w W → _) := fun W hW => own_is g ⟨ta, tc, na, nc, ra, rc⟩ W l1 l2 (by omega) (fun r hr => by have := l6 r hr; omega) (h.later hW).size
      obtain ⟨nx, nok, hnx⟩ : ∃ x ok, Gr.name g sy = (x, ok) := ⟨_, _, rfl⟩
      have HNM : Hid (∀ (W : World) (A' : GA), GmAt W.heap.size W g A' → Calls Try.prog 13 #[.agg (gmCells g A'), .int .i64 sy] W fun e w' => e = .returned (.tuple #[.string nx, .bool nok]) ∧ Below W.heap.size W w') := fun W A' hA => name_is nx nok g A' sy W ⟨l1, l2⟩ (fun s h => by have := l4 s h; omega) (fun s h => by have := l5 s h; omega) hA hnx
      have HRN : Hid (∀ (W : World), Below w.heap.size w W → Calls Try.prog 14 #[.agg (gmCells g ⟨ta, tc, na, nc, ra, rc⟩), .int .i64 sy] W fun e w' => e = .returned (.agg #[.string nx, .bool nok]) ∧ Below W.heap.size W w') := fun W hW => refName_any nx nok g _ sy W ⟨l1, l2⟩ (h.later hW).size hnx
      obtain ⟨gd, hgd⟩ : ∃ b, Gr.good g = b := ⟨_, rfl⟩
      have HGD : Hid (∀ (W : World) (A' : GA), GmAt W.heap.size W g A' → Calls Try.prog 16 #[.agg (gmCells g A')] W fun e w' => e = .returned (.bool gd) ∧ Below W.heap.size W w') := fun W A' hA => good_is gd g A' W hm hA hgd
      have HRG : Hid (∀ (W : World), Below w.heap.size w W → Calls Try.prog 17 #[.agg (gmCells g ⟨ta, tc, na, nc, ra, rc⟩)] W fun e w' => e = .returned (.bool gd) ∧ Below W.heap.size W w') := fun W hW => refGood_any gd g _ W hm (h.later hW).size ((Gr.refGood_is g).trans hgd)
      obtain ⟨tb, htb⟩ : ∃ b, Gr.isT g sy = b := ⟨_, rfl⟩
      have HTB : Hid (decide (0 ≤ sy ∧ sy < g.terms.length) = tb) := htb
      have HTM : Hid (∀ (W : World) (A' : GA), Calls Try.prog 18 #[.agg (gmCells g A'), .int .i64 sy] W fun e w' => e = .returned (.bool tb) ∧ Below W.heap.size W w') := fun W A' => term_is tb g A' sy W htb
      have HKI : Hid (∀ (W : World) (A' B' : GA), GmAt W.heap.size W g A' → GmAt W.heap.size W g B' → Calls Try.prog 15 #[.agg (gmCells g A'), .agg (gmCells g B')] W fun e w' => e = .returned (.bool true) ∧ Below W.heap.size W w') := fun W A' B' h1 h2 => keepGrammar_same g A' B' W ⟨l1, l2, by omega⟩ (fun r hr => by have := l6 r hr; omega) h1 h2
      have HKG : Hid (∀ (W : World) (A' B' : GA), GmAt W.heap.size W gg A' → GmAt W.heap.size W gg B' → Calls Try.prog 15 #[.agg (gmCells gg A'), .agg (gmCells gg B')] W fun e w' => e = .returned (.bool true) ∧ Below W.heap.size W w') := fun W A' B' h1 h2 => keepGrammar_same gg A' B' W HZ.out.1 HZ.out.2 h1 h2
      clear hl hz1 hz2 hgd htb hnx l3 l4 l5 l6 HLG h hr hm
      simp only [gmCells] at HL1 HOW HNM HRN HGD HRG HTM HKI HKG ⊢
      go_enter Try.func3, Try.ntmps3
      go_wp2_with (go_at_call 8; refine (HL1.out _ hbW.out).mono ?_; rintro e w1 ⟨rfl, hb1⟩; have HB1 : Hid (Below w.heap.size w w1) := hbW.out.trans (hb1.mono hbW.out.size); have k1 : Hid _ := blk_later b0.out hb1)
      obtain ⟨c0, c1, c2, _⟩ := cells_three_z k1.out
      clear hb1 b0 hWs
      go_wp2_with (go_at_call 10; fail)
      refine (of_is s E At gg w1 hs HOF).mono ?_
      rintro e w2 ⟨⟨ta1, tc1, na1, nc1, ra1, rc1⟩, rfl, hb2, ho2⟩
      simp only [gmCells]
      have hB2 : Hid (Below w.heap.size w w2) := HB1.out.trans (hb2.out.mono HB1.out.size)
      have k2 : Hid _ := blk_later k1.out hb2.out
      have bB3 : Hid (Below w2.heap.size w2 ((w2.alloc (Obj.cells #[.slice ta1 gg.terms.length tc1, .slice na1 gg.names.length nc1, .slice ra1 gg.rules.length rc1] 25)).alloc (Obj.cells #[.int .i64 E, .int .i64 At] 30))) := ((Below.refl _ w2).alloc (Nat.le_refl _) _).alloc (by simp) _
      have kA3 : Hid (((w2.alloc (Obj.cells #[.slice ta1 gg.terms.length tc1, .slice na1 gg.names.length nc1, .slice ra1 gg.rules.length rc1] 25)).alloc (Obj.cells #[.int .i64 E, .int .i64 At] 30)).heap[w2.heap.size]? = some (.cells #[.slice ta1 gg.terms.length tc1, .slice na1 gg.names.length nc1, .slice ra1 gg.rules.length rc1] 25 (0, 0))) := by
        show _ = _; rw [Below.heap_alloc _ _ _ (by simp)]; exact heap_alloc_new w2 _
      have kF3 : Hid (((w2.alloc (Obj.cells #[.slice ta1 gg.terms.length tc1, .slice na1 gg.names.length nc1, .slice ra1 gg.rules.length rc1] 25)).alloc (Obj.cells #[.int .i64 E, .int .i64 At] 30)).heap[w2.heap.size + 1]? = some (.cells #[.int .i64 E, .int .i64 At] 30 (0, 0))) := by
        show _ = _
        have := heap_alloc_new (w2.alloc (Obj.cells #[.slice ta1 gg.terms.length tc1, .slice na1 gg.names.length nc1, .slice ra1 gg.rules.length rc1] 25)) (Obj.cells #[.int .i64 E, .int .i64 At] 30)
        simpa using this
      have k3 : Hid _ := blk_later k2.out bB3.out
      have hB3 : Hid _ := hB2.out.trans (bB3.out.mono hB2.out.size)
      have gA3 : Hid _ := ho2.out.below bB3.out
      clear c0 c1 c2 k1 k2 hb2 ho2
      go_wp2_with (go_at_call 11; fail)
      generalize ((w2.alloc (Obj.cells #[.slice ta1 gg.terms.length tc1, .slice na1 gg.names.length nc1, .slice ra1 gg.rules.length rc1] 25)).alloc (Obj.cells #[.int .i64 E, .int .i64 At] 30)) = W3 at *
      refine (refOf_is s E At gg W3 hs HOF).mono ?_
      rintro e w4 ⟨⟨ta2, tc2, na2, nc2, ra2, rc2⟩, rfl, hb4, ho4⟩
      simp only
      have bB5 : Hid (Below w4.heap.size w4 (w4.alloc (Obj.cells #[.slice ta2 gg.terms.length tc2, .slice na2 gg.names.length nc2, .slice ra2 gg.rules.length rc2, .int .i64 E, .int .i64 At] 34))) := (Below.refl _ w4).alloc (Nat.le_refl _) _
      have kB5 : Hid ((w4.alloc (Obj.cells #[.slice ta2 gg.terms.length tc2, .slice na2 gg.names.length nc2, .slice ra2 gg.rules.length rc2, .int .i64 E, .int .i64 At] 34)).heap[w4.heap.size]? = some (.cells #[.slice ta2 gg.terms.length tc2, .slice na2 gg.names.length nc2, .slice ra2 gg.rules.length rc2, .int .i64 E, .int .i64 At] 34 (0, 0))) := heap_alloc_new w4 _
      have k5 : Hid _ := blk_later (blk_later k3.out hb4.out) bB5.out
      have kA5 : Hid _ := blk_later (blk_later kA3.out hb4.out) bB5.out
      have kF5 : Hid _ := blk_later (blk_later kF3.out hb4.out) bB5.out
      have hB4 : Hid _ := hB3.out.trans (hb4.out.mono hB3.out.size)
      have hB5 : Hid _ := hB4.out.trans (bB5.out.mono hB4.out.size)
      have gA5 : Hid _ := (gA3.out.below hb4.out).below bB5.out
      have gB5 : Hid _ := ho4.out.below bB5.out
      obtain ⟨c0, c1, c2, _⟩ := cells_three_z (blk_later k3.out hb4.out)
      have hz4 : w.heap.size < w4.heap.size := (Array.getElem?_eq_some_iff.1 (blk_later k3.out hb4.out)).1
      clear k3 kA3 kF3 hB3 hB4 gA3 hb4 ho4
      go_wp2_with (go_at_call 12; fail)
      generalize (w4.alloc (Obj.cells #[.slice ta2 gg.terms.length tc2, .slice na2 gg.names.length nc2, .slice ra2 gg.rules.length rc2, .int .i64 E, .int .i64 At] 34)) = W5 at *
      refine (HOW.out W5 hB5.out).mono ?_
      rintro e w6 ⟨⟨ta3, tc3, na3, nc3, ra3, rc3⟩, rfl, ho6, hb6, _⟩
      simp only
      have bB7 : Hid (Below w6.heap.size w6 (w6.alloc (Obj.cells #[.slice ta3 g.terms.length tc3, .slice na3 g.names.length nc3, .slice ra3 g.rules.length rc3] 25))) := (Below.refl _ w6).alloc (Nat.le_refl _) _
      have kI7 : Hid ((w6.alloc (Obj.cells #[.slice ta3 g.terms.length tc3, .slice na3 g.names.length nc3, .slice ra3 g.rules.length rc3] 25)).heap[w6.heap.size]? = some (.cells #[.slice ta3 g.terms.length tc3, .slice na3 g.names.length nc3, .slice ra3 g.rules.length rc3] 25 (0, 0))) := heap_alloc_new w6 _
      have k7 : Hid _ := blk_later (blk_later k5.out hb6.out) bB7.out
      have kA7 : Hid _ := blk_later (blk_later kA5.out hb6.out) bB7.out
      have kF7 : Hid _ := blk_later (blk_later kF5.out hb6.out) bB7.out
      have kB7 : Hid _ := blk_later (blk_later kB5.out hb6.out) bB7.out
      have hB6 : Hid _ := hB5.out.trans (hb6.out.mono hB5.out.size)
      have hB7 : Hid _ := hB6.out.trans (bB7.out.mono hB6.out.size)
      have gA7 : Hid _ := (gA5.out.below hb6.out).below bB7.out
      have gB7 : Hid _ := (gB5.out.below hb6.out).below bB7.out
      have gI7 : Hid _ := ho6.out.below bB7.out
      clear c0 c1 c2 k5 kA5 kF5 kB5 hB5 hB6 gA5 gB5 hb6 ho6 hz4
      go_wp2_with (go_at_call 13; fail)
      generalize (w6.alloc (Obj.cells #[.slice ta3 g.terms.length tc3, .slice na3 g.names.length nc3, .slice ra3 g.rules.length rc3] 25)) = W7 at *
      refine (HNM.out W7 ⟨ta3, tc3, na3, nc3, ra3, rc3⟩ gI7.out.at).mono ?_
      rintro e w8 ⟨rfl, hb8⟩
      have hB8 : Hid _ := hB7.out.trans (hb8.mono hB7.out.size)
      obtain ⟨c0, c1, c2, _⟩ := cells_three_z (blk_later k7.out hb8)
      go_wp2_with (go_at_call 14; fail)
      refine (HRN.out w8 hB8.out).mono ?_
      rintro e w9 ⟨rfl, hb9⟩
      have hb79 : Below W7.heap.size W7 w9 := hb8.trans (hb9.mono hb8.size)
      have bB10 : Hid (Below w9.heap.size w9 (w9.alloc (Obj.cells #[.string nx, .bool nok] 40))) := (Below.refl _ w9).alloc (Nat.le_refl _) _
      have kW10 : Hid ((w9.alloc (Obj.cells #[.string nx, .bool nok] 40)).heap[w9.heap.size]? = some (.cells #[.string nx, .bool nok] 40 (0, 0))) := heap_alloc_new w9 _
      have hb710 : Hid _ := hb79.trans (bB10.out.mono hb79.size)
      have k10 : Hid _ := blk_later k7.out hb710.out
      have kA10 : Hid _ := blk_later kA7.out hb710.out
      have kF10 : Hid _ := blk_later kF7.out hb710.out
      have kB10 : Hid _ := blk_later kB7.out hb710.out
      have kI10 : Hid _ := blk_later kI7.out hb710.out
      have hB10 : Hid _ := hB7.out.trans (hb710.out.mono hB7.out.size)
      have gA10 : Hid _ := gA7.out.below hb710.out
      have gB10 : Hid _ := gB7.out.below hb710.out
      have gI10 : Hid _ := gI7.out.below hb710.out
      clear c0 c1 c2 k7 kA7 kF7 kB7 kI7 hB7 hB8 gA7 gB7 gI7 hb8 hb9 hb79 hb710
      go_upto_region 8 with fail
      generalize (w9.alloc (Obj.cells #[.string nx, .bool nok] 40)) = WF at *
      obtain ⟨c0, c1, c2, _⟩ := cells_three_z k10.out
      obtain ⟨a0, a1, a2, _⟩ := cells_three_z kA10.out
      obtain ⟨f0, f1, _⟩ := cells_two_z kF10.out
      obtain ⟨d0, d1, d2, d3, d4, _⟩ := cells_five_z kB10.out
      obtain ⟨i0, i1, i2, _⟩ := cells_three_z kI10.out
      obtain ⟨n0, n1, _⟩ := cells_two_z kW10.out
      have C0 : ∀ p : Later WF, p.w.cell? _ = some _ := Later.cell c0
      have C1 : ∀ p : Later WF, p.w.cell? _ = some _ := Later.cell c1
      have C2 : ∀ p : Later WF, p.w.cell? _ = some _ := Later.cell c2
      have A0 : ∀ p : Later WF, p.w.cell? _ = some _ := Later.cell a0
      have A1 : ∀ p : Later WF, p.w.cell? _ = some _ := Later.cell a1
      have A2 : ∀ p : Later WF, p.w.cell? _ = some _ := Later.cell a2
      have F0 : ∀ p : Later WF, p.w.cell? _ = some _ := Later.cell f0
      have F1 : ∀ p : Later WF, p.w.cell? _ = some _ := Later.cell f1
      have D0 : ∀ p : Later WF, p.w.cell? _ = some _ := Later.cell d0
      have D1 : ∀ p : Later WF, p.w.cell? _ = some _ := Later.cell d1
      have D2 : ∀ p : Later WF, p.w.cell? _ = some _ := Later.cell d2
      have D3 : ∀ p : Later WF, p.w.cell? _ = some _ := Later.cell d3
      have D4 : ∀ p : Later WF, p.w.cell? _ = some _ := Later.cell d4
      have I0 : ∀ p : Later WF, p.w.cell? _ = some _ := Later.cell i0
      have I1 : ∀ p : Later WF, p.w.cell? _ = some _ := Later.cell i1
      have I2 : ∀ p : Later WF, p.w.cell? _ = some _ := Later.cell i2
      have N0 : ∀ p : Later WF, p.w.cell? _ = some _ := Later.cell n0
      have N1 : ∀ p : Later WF, p.w.cell? _ = some _ := Later.cell n1
      have LK1 : Hid (∀ p : Later WF, _) := fun p => Calls.later_of (HKG.out p.w ⟨ta1, tc1, na1, nc1, ra1, rc1⟩ ⟨ta2, tc2, na2, nc2, ra2, rc2⟩ (gA10.out.below p.h).at (gB10.out.below p.h).at)
      have LGD : Hid (∀ p : Later WF, _) := fun p => Calls.later_of (HGD.out p.w ⟨ta3, tc3, na3, nc3, ra3, rc3⟩ (gI10.out.below p.h).at)
      have LRG : Hid (∀ p : Later WF, _) := fun p => Calls.later_of (HRG.out p.w (hB10.out.trans (p.h.mono hB10.out.size)))
      have LTM : Hid (∀ p : Later WF, _) := fun p => Calls.later_of (HTM.out p.w ⟨ta3, tc3, na3, nc3, ra3, rc3⟩)
      have LK2 : Hid (∀ p : Later WF, _) := fun p => Calls.later_of (HKI.out p.w ⟨ta3, tc3, na3, nc3, ra3, rc3⟩ ⟨ta, tc, na, nc, ra, rc⟩ (gI10.out.below p.h).at (HG.out.later (hB10.out.trans (p.h.mono hB10.out.size))).size)
      have LWK : Hid (∀ p : Later WF, _) := fun p => Calls.later_of (gwakes_any p.w)
      clear c0 c1 c2 a0 a1 a2 f0 f1 d0 d1 d2 d3 d4 i0 i1 i2 n0 n1 HKG HGD HRG HTM HKI HOW HNM HRN HL1 gA10 gB10 gI10 k10 kA10 kF10 kB10 kI10 kW10
      go_cut [6] (fun v wc => v = .bool true ∧ Below w.heap.size w wc)
      case first =>
        by_cases q1 : 0 ≤ sy
        · by_cases q2 : sy < (g.terms.length : Int)
          · have e : tb = true := by rw [← HTB.out]; exact decide_eq_true ⟨q1, q2⟩
            subst e
            refine wp_region_later (by kernel_rfl) (by kernel_rfl) ?_
            iterate 50 (quiet_step (first | (go_at_call 15; exact LK1.out _) | (go_at_call 16; exact LGD.out _) | (go_at_call 17; exact LRG.out _) | (go_at_call 18; exact LTM.out _)))
            clear LK1 LGD LRG LTM
            repeat (quiet_step (first | (go_at_call 15; exact LK2.out _) | (go_at_call 9; exact LWK.out _)))
            refine wpQuiet_nil ?_
            intro _ hw'
            obtain ⟨pq, hw''⟩ := hw'
            subst hw''
            go_wp2_with fail
            go_meet
            case rel => exact ⟨rfl, hB10.out.trans (pq.h.mono hB10.out.size)⟩
          · have e : tb = false := by rw [← HTB.out]; exact decide_eq_false (fun h => q2 h.2)
            subst e
            have q2d : decide (sy < (g.terms.length : Int)) = false := decide_eq_false q2
            refine wp_region_later (by kernel_rfl) (by kernel_rfl) ?_
            iterate 50 (quiet_step (first | (go_at_call 15; exact LK1.out _) | (go_at_call 16; exact LGD.out _) | (go_at_call 17; exact LRG.out _) | (go_at_call 18; exact LTM.out _)))
            clear LK1 LGD LRG LTM
            repeat (quiet_step (first | (go_at_call 15; exact LK2.out _) | (go_at_call 9; exact LWK.out _)))
            refine wpQuiet_nil ?_
            intro _ hw'
            obtain ⟨pq, hw''⟩ := hw'
            subst hw''
            go_wp2_with fail
            go_meet
            case rel => exact ⟨rfl, hB10.out.trans (pq.h.mono hB10.out.size)⟩
        · have e : tb = false := by rw [← HTB.out]; exact decide_eq_false (fun h => q1 h.1)
          subst e
          have q1d : decide ((0 : Int) ≤ sy) = false := decide_eq_false q1
          refine wp_region_later (by kernel_rfl) (by kernel_rfl) ?_
          iterate 50 (quiet_step (first | (go_at_call 15; exact LK1.out _) | (go_at_call 16; exact LGD.out _) | (go_at_call 17; exact LRG.out _) | (go_at_call 18; exact LTM.out _)))
          clear LK1 LGD LRG LTM
          repeat (quiet_step (first | (go_at_call 15; exact LK2.out _) | (go_at_call 9; exact LWK.out _)))
          refine wpQuiet_nil ?_
          intro _ hw'
          obtain ⟨pq, hw''⟩ := hw'
          subst hw''
          go_wp2_with fail
          go_meet
          case rel => exact ⟨rfl, hB10.out.trans (pq.h.mono hB10.out.size)⟩
      case rest =>
        obtain ⟨rfl, hbc⟩ := hcut
        go_wp2_with fail
        go_ret
        exact ⟨rfl, hbc⟩
    · have HL1 : Hid (∀ (W : World), Below w.heap.size w W → _) := fun W hW => HLG.out true W hW hl
      clear hl HLG h hr hm
      simp only [gmCells] at HL1 ⊢
      go_enter Try.func3, Try.ntmps3
      go_wp2_with (go_at_call 8; refine (HL1.out _ hbW.out).mono ?_; rintro e w1 ⟨rfl, hb1⟩; have HB1 : Hid (Below w.heap.size w w1) := hbW.out.trans (hb1.mono hbW.out.size))
      go_wp2_with (first | (go_at_call 9; refine (gwakes_any _).mono ?_; rintro e w3 ⟨rfl, hb3⟩))
      go_ret
      exact ⟨rfl, HB1.out.trans (hb3.mono HB1.out.size)⟩
end Go.Proofs.Ytnphfhoknnnciaa
