/-
  The law ShowBack, walked: it returns true, of every grammar and text.
-/
import Derived.Test.YtnphfhoknnnciaaShMath2
import Derived.Test.YtnphfhoknnnciaaShWakes
import Derived.Test.YtnphfhoknnnciaaGrKeeps
import Derived.Test.YtnphfhoknnnciaaGrOpen
import Derived.Test.YtnphfhoknnnciaaGrMath7
namespace Go.Proofs.Ytnphfhoknnnciaa.Sh
open Go.Proofs.Ytnphfhoknnnciaa.Gr
theorem text_ok {g : Gm} {n : Int} {s : ByteArray} (h : good g = true) (h2 : (allT g g.rules).size ≤ 2000) (ht : text g = (n, s)) : n = 0 ∧ s = allT g g.rules := by
  unfold text at ht
  rw [if_neg (by rw [h]; simp), if_pos h2] at ht
  cases ht
  exact ⟨rfl, rfl⟩
theorem text_large {g : Gm} {n : Int} {s : ByteArray} (h : good g = true) (h2 : ¬ (allT g g.rules).size ≤ 2000) (ht : text g = (n, s)) : n = 14 := by
  unfold text at ht
  rw [if_neg (by rw [h]; simp), if_neg h2] at ht
  cases ht
  rfl
theorem text_zero {g : Gm} {s : ByteArray} (ht : text g = (0, s)) : good g = true ∧ (allT g g.rules).size ≤ 2000 := by
  unfold text at ht
  cases h : good g
  · rw [if_pos h] at ht; cases ht
  · rw [if_neg (by rw [h]; simp)] at ht
    by_cases h2 : (allT g g.rules).size ≤ 2000
    · exact ⟨rfl, h2⟩
    · rw [if_neg h2] at ht; cases ht
end Go.Proofs.Ytnphfhoknnnciaa.Sh

namespace Go.Proofs.Ytnphfhoknnnciaa
open Go.RowKit

theorem blk_at {w w' : World} {b : Nat} {o : Obj} (h : w.heap[b]? = some o) (hb : Below w.heap.size w w') : w'.heap[b]? = some o := by
  rw [hb.block _ (Array.getElem?_eq_some_iff.1 h).1]; exact h

theorem of_small4 {xs : List Rd.Al} {g : Gr.Gm} (hl : xs.length ≤ 60) (h8 : ∀ x ∈ xs, x.2.length ≤ 8) (h : Gr.of xs = .ok g) : (g.terms.length ≤ 4000 ∧ g.names.length ≤ 4000 ∧ g.rules.length ≤ 4000) ∧ ∀ r ∈ g.rules, r.2.length ≤ 4000 := by
  unfold Gr.of at h
  split at h
  · cases h
  · split at h
    · cases h
    · cases h
      have h1 := Gr.names_len xs xs.length
      have h2 := Gr.terms_len xs h8 xs.length
      have h3 := Gr.rules_len (Gr.terms xs) (Gr.names xs) xs xs.length
      have h4 := Gr.rules_right (Gr.terms xs) (Gr.names xs) xs h8 xs.length
      rw [List.take_length] at h1 h2 h3 h4
      refine ⟨⟨by simp only; omega, by simp only; omega, by simp only; omega⟩, fun r hr => ?_⟩
      have := h4 r hr
      omega

theorem ofS_small4 (l : List UInt8) {E At : Int} {g : Gr.Gm} (h : ofS l = (E, At, g)) : (g.terms.length ≤ 4000 ∧ g.names.length ≤ 4000 ∧ g.rules.length ≤ 4000) ∧ ∀ r ∈ g.rules, r.2.length ≤ 4000 := by
  have Z : (((⟨[], [], []⟩ : Gr.Gm).terms.length ≤ 4000 ∧ (⟨[], [], []⟩ : Gr.Gm).names.length ≤ 4000 ∧ (⟨[], [], []⟩ : Gr.Gm).rules.length ≤ 4000) ∧ ∀ r ∈ (⟨[], [], []⟩ : Gr.Gm).rules, r.2.length ≤ 4000) :=
    ⟨⟨Nat.zero_le _, Nat.zero_le _, Nat.zero_le _⟩, fun r hr => by simp at hr⟩
  unfold ofS Gr.ofG at h
  rcases toksOf_cases l with ⟨us, ht, hl, hE⟩ | ⟨n, a, hn, ha, hE, hG⟩
  · rcases Rd.altsG_cases (us.map tkOf) l.length with ⟨xs, h1, h2, h3, h4⟩ | ⟨⟨en, ea⟩, h1, h2, h3⟩
    · have hsm := Rd.altsG_small h2
      rw [hE] at h
      simp only [h2] at h
      cases ho : Gr.of xs with
      | error er => rw [ho] at h; simp at h; obtain ⟨_, _, rfl⟩ := h; exact Z
      | ok g' => rw [ho] at h; simp at h; obtain ⟨_, _, rfl⟩ := h; exact of_small4 hsm.1 hsm.2 ho
    · rw [hE] at h
      simp only at h2 h3
      have : en ≠ 0 := by omega
      simp [h2, this] at h
      obtain ⟨_, _, rfl⟩ := h
      exact Z
  · rw [hE] at h
    rcases hn with rfl | rfl
    · simp at h; obtain ⟨_, _, rfl⟩ := h; exact Z
    · simp at h; obtain ⟨_, _, rfl⟩ := h; exact Z

set_option maxRecDepth 100000 in
set_option maxHeartbeats 6400000 in
theorem showBack_walk (g : Gr.Gm) (A : GA) (s : ByteArray) (w : World) (h : GmAt w.heap.size w g A) (hr : ∀ r ∈ g.rules, r.2.length ≤ maxLen ∧ rlWf r) (hs : s.size ≤ maxLen) :
    Calls Try.prog 5 #[.agg (gmCells g A), .string s] w fun e w' => e = .returned (.bool true) ∧ Below w.heap.size w w' := by
  have hm : ∀ r ∈ g.rules, r.2.length ≤ maxLen := fun r h => (hr r h).1
  have hs' : s.size ≤ 9223372036854775807 := hs
  obtain ⟨ta, tc, na, nc, ra, rc⟩ := A
  have HG : Hid (GmAt w.heap.size w g ⟨ta, tc, na, nc, ra, rc⟩) := h
  have hbW : Hid (Below w.heap.size w (w.alloc (Obj.cells #[.slice ta g.terms.length tc, .slice na g.names.length nc, .slice ra g.rules.length rc] 25))) := (Below.refl _ w).alloc (Nat.le_refl _) _
  have b0 : Hid ((w.alloc (Obj.cells #[.slice ta g.terms.length tc, .slice na g.names.length nc, .slice ra g.rules.length rc] 25)).heap[w.heap.size]? = some (.cells #[.slice ta g.terms.length tc, .slice na g.names.length nc, .slice ra g.rules.length rc] 25 (0, 0))) := heap_alloc_new w _
  have HLG : Hid (∀ (r : Bool) (W : World), Below w.heap.size w W → Gr.large g = r → Calls Try.prog 8 #[.agg (gmCells g ⟨ta, tc, na, nc, ra, rc⟩)] W fun e w' => e = .returned (.bool r) ∧ Below W.heap.size W w') := fun r W hW hl => large_is r g _ W hm (h.later hW).size hl
  cases hl : Gr.large g
  · have HL1 : Hid (∀ (W : World), Below w.heap.size w W → _) := fun W hW => HLG.out false W hW hl
    by_cases h2 : 2000 < s.size
    · have h2i : (2000 : Int) < (s.size : Int) := by omega
      clear hl HLG h hr hm
      simp only [gmCells] at HL1 ⊢
      go_enter Try.func5, Try.ntmps5
      go_wp2_with (go_at_call 8; fail)
      refine (HL1.out _ hbW.out).mono ?_
      rintro e w1 ⟨rfl, hb1⟩
      have HB1 : Hid (Below w.heap.size w w1) := hbW.out.trans (hb1.mono hbW.out.size)
      go_wp2_with (go_at_call 19; fail)
      refine (swakes_any _).mono ?_
      rintro e w3 ⟨rfl, hb3⟩
      go_wp2_with fail
      go_ret
      exact ⟨rfl, HB1.out.trans (hb3.mono HB1.out.size)⟩
    have h2d : decide ((2000 : Int) < (s.size : Int)) = false := decide_eq_false (by omega)
    obtain ⟨l1, l2, l3, l4, l5, l6⟩ := Gr.large_no hl
    obtain ⟨tn, tx, htx⟩ : ∃ tn tx, Sh.text g = (tn, tx) := ⟨_, _, rfl⟩
    have HTX : Hid (Sh.text g = (tn, tx)) := htx
    have HST : Hid (∀ (W : World), Below w.heap.size w W → Calls Try.prog 20 #[.agg (gmCells g ⟨ta, tc, na, nc, ra, rc⟩)] W fun e w' => e = .returned (.tuple #[.string tx, .int .i64 tn]) ∧ Below W.heap.size W w') := fun W hW => showText_is g _ tn tx W hm (h.later hW).size htx
    have HKI : Hid (∀ (W : World) (A' B' : GA), GmAt W.heap.size W g A' → GmAt W.heap.size W g B' → Calls Try.prog 15 #[.agg (gmCells g A'), .agg (gmCells g B')] W fun e w' => e = .returned (.bool true) ∧ Below W.heap.size W w') := fun W A' B' h1 h2 => keepGrammar_same g A' B' W ⟨l1, l2, by omega⟩ (fun r hr => by have := l6 r hr; omega) h1 h2
    obtain ⟨E, At, hh, HOS⟩ : ∃ E At hh, Hid (ofS s.data.toList = (E, At, hh)) := ⟨_, _, _, rfl⟩
    have hzs := ofS_small4 _ HOS.out
    have HCS : Hid (E = 0 → Gr.good hh = true) := fun e0 => by
      rcases ofS_cases s.data.toList with ⟨n, a, hn, _, _, e⟩ | ⟨g', us, xs, e, _, _, _, _, _, _, _, _, hg⟩
      · rw [HOS.out] at e; cases e; exact absurd e0 hn
      · rw [HOS.out] at e; cases e; exact hg
    obtain ⟨tn2, tx2, HT2⟩ : ∃ tn2 tx2, Hid (Sh.text hh = (tn2, tx2)) := ⟨_, _, rfl⟩
    have HM2 : Hid (∀ x ∈ hh.rules, x.2.length ≤ maxLen) := fun x hx => by have := hzs.2 x hx; unfold maxLen; omega
    have HK2 : Hid (∀ (W : World) (A' B' : GA), GmAt W.heap.size W hh A' → GmAt W.heap.size W hh B' → Calls Try.prog 15 #[.agg (gmCells hh A'), .agg (gmCells hh B')] W fun e w' => e = .returned (.bool true) ∧ Below W.heap.size W w') := fun W A' B' h1 h2 => keepGrammar_same hh A' B' W hzs.1 hzs.2 h1 h2
    clear hl htx hzs l1 l2 l3 l4 l5 l6 HLG h hr hm h2
    simp only [gmCells] at HL1 HST HKI HK2 ⊢
    go_enter Try.func5, Try.ntmps5
    go_wp2_with (go_at_call 8; fail)
    generalize (w.alloc (Obj.cells #[.slice ta g.terms.length tc, .slice na g.names.length nc, .slice ra g.rules.length rc] 25)) = W at *
    refine (HL1.out _ hbW.out).mono ?_
    rintro e w1 ⟨rfl, hb1⟩
    have HB1 : Hid (Below w.heap.size w w1) := hbW.out.trans (hb1.mono hbW.out.size)
    have k1 : Hid _ := blk_at b0.out hb1
    obtain ⟨c0, c1, c2, _⟩ := cells_three_z k1.out
    clear hb1 b0 HL1 hbW
    go_wp2_with (go_at_call 20; fail)
    refine (HST.out w1 HB1.out).mono ?_
    rintro e w2 ⟨rfl, hb2⟩
    have k2 : Hid _ := blk_at k1.out hb2
    have HB2 : Hid _ := HB1.out.trans (hb2.mono HB1.out.size)
    clear hb2 k1 HB1 HST c0 c1 c2
    by_cases h0 : tn = 0
    · subst h0
      obtain ⟨hgd, hsz⟩ := Sh.text_zero HTX.out
      have HE1 : Hid (tx = Sh.allT g g.rules) := (Sh.text_ok hgd hsz HTX.out).2
      have e1 := HE1.out
      subst e1
      have HOT : Hid (ofS (Sh.allT g g.rules).data.toList = (0, 0, g)) := Sh.of_text hgd hsz
      have hxl : (Sh.allT g g.rules).size ≤ maxLen := by unfold maxLen; omega
      generalize Sh.allT g g.rules = tx at *
      go_wp2_with (go_at_call 10; fail)
      refine (of_is tx 0 0 g w2 hxl HOT).mono ?_
      rintro e u1 ⟨⟨ta1, tc1, na1, nc1, ra1, rc1⟩, rfl, hu1, ho1⟩
      simp only [gmCells]
      have bB1 : Hid (Below u1.heap.size u1 ((u1.alloc (Obj.cells #[.slice ta1 g.terms.length tc1, .slice na1 g.names.length nc1, .slice ra1 g.rules.length rc1] 25)).alloc (Obj.cells #[.int .i64 0, .int .i64 0] 30))) := ((Below.refl _ u1).alloc (Nat.le_refl _) _).alloc (by simp) _
      have kG1 : Hid (((u1.alloc (Obj.cells #[.slice ta1 g.terms.length tc1, .slice na1 g.names.length nc1, .slice ra1 g.rules.length rc1] 25)).alloc (Obj.cells #[.int .i64 0, .int .i64 0] 30)).heap[u1.heap.size]? = some (.cells #[.slice ta1 g.terms.length tc1, .slice na1 g.names.length nc1, .slice ra1 g.rules.length rc1] 25 (0, 0))) := by
        show _ = _; rw [Below.heap_alloc _ _ _ (by simp)]; exact heap_alloc_new u1 _
      have kF1 : Hid (((u1.alloc (Obj.cells #[.slice ta1 g.terms.length tc1, .slice na1 g.names.length nc1, .slice ra1 g.rules.length rc1] 25)).alloc (Obj.cells #[.int .i64 0, .int .i64 0] 30)).heap[u1.heap.size + 1]? = some (.cells #[.int .i64 0, .int .i64 0] 30 (0, 0))) := by
        show _ = _
        have := heap_alloc_new (u1.alloc (Obj.cells #[.slice ta1 g.terms.length tc1, .slice na1 g.names.length nc1, .slice ra1 g.rules.length rc1] 25)) (Obj.cells #[.int .i64 0, .int .i64 0] 30)
        simpa using this
      have gA1 : Hid _ := ho1.out.below bB1.out
      have hU1 : Hid _ := HB2.out.trans (hu1.out.mono HB2.out.size)
      have hU2 : Hid (Below w.heap.size w ((u1.alloc (Obj.cells #[.slice ta1 g.terms.length tc1, .slice na1 g.names.length nc1, .slice ra1 g.rules.length rc1] 25)).alloc (Obj.cells #[.int .i64 0, .int .i64 0] 30))) := hU1.out.trans (bB1.out.mono hU1.out.size)
      have kP2 : Hid _ := blk_at (blk_at k2.out hu1.out) bB1.out
      have hz1 : w.heap.size < u1.heap.size := (Array.getElem?_eq_some_iff.1 (blk_at k2.out hu1.out)).1
      obtain ⟨c0, c1, c2, _⟩ := cells_three_z (blk_at k2.out hu1.out)
      clear hu1 ho1 hU1 k2 HB2
      go_wp2_with (go_at_call 15; fail)
      generalize ((u1.alloc (Obj.cells #[.slice ta1 g.terms.length tc1, .slice na1 g.names.length nc1, .slice ra1 g.rules.length rc1] 25)).alloc (Obj.cells #[.int .i64 0, .int .i64 0] 30)) = U2 at *
      refine (HKI.out U2 ⟨ta, tc, na, nc, ra, rc⟩ ⟨ta1, tc1, na1, nc1, ra1, rc1⟩ (HG.out.later hU2.out).size gA1.out.at).mono ?_
      rintro e u3 ⟨rfl, hu3⟩
      have hU3 : Hid (Below w.heap.size w u3) := hU2.out.trans (hu3.mono hU2.out.size)
      clear hu3 hU2 gA1 kP2 c0 c1 c2 kG1 kF1 HKI
      go_wp2_with (go_at_call 10; fail)
      refine (of_is s E At hh u3 hs HOS).mono ?_
      rintro e v1 ⟨⟨ta2, tc2, na2, nc2, ra2, rc2⟩, rfl, hv1, ho2⟩
      simp only [gmCells]
      have bB2 : Hid (Below v1.heap.size v1 ((v1.alloc (Obj.cells #[.slice ta2 hh.terms.length tc2, .slice na2 hh.names.length nc2, .slice ra2 hh.rules.length rc2] 25)).alloc (Obj.cells #[.int .i64 E, .int .i64 At] 30))) := ((Below.refl _ v1).alloc (Nat.le_refl _) _).alloc (by simp) _
      have kG2 : Hid (((v1.alloc (Obj.cells #[.slice ta2 hh.terms.length tc2, .slice na2 hh.names.length nc2, .slice ra2 hh.rules.length rc2] 25)).alloc (Obj.cells #[.int .i64 E, .int .i64 At] 30)).heap[v1.heap.size]? = some (.cells #[.slice ta2 hh.terms.length tc2, .slice na2 hh.names.length nc2, .slice ra2 hh.rules.length rc2] 25 (0, 0))) := by
        show _ = _; rw [Below.heap_alloc _ _ _ (by simp)]; exact heap_alloc_new v1 _
      have kF2 : Hid (((v1.alloc (Obj.cells #[.slice ta2 hh.terms.length tc2, .slice na2 hh.names.length nc2, .slice ra2 hh.rules.length rc2] 25)).alloc (Obj.cells #[.int .i64 E, .int .i64 At] 30)).heap[v1.heap.size + 1]? = some (.cells #[.int .i64 E, .int .i64 At] 30 (0, 0))) := by
        show _ = _
        have := heap_alloc_new (v1.alloc (Obj.cells #[.slice ta2 hh.terms.length tc2, .slice na2 hh.names.length nc2, .slice ra2 hh.rules.length rc2] 25)) (Obj.cells #[.int .i64 E, .int .i64 At] 30)
        simpa using this
      have gA2 : Hid _ := ho2.out.below bB2.out
      have hV1 : Hid _ := hU3.out.trans (hv1.out.mono hU3.out.size)
      have hV2 : Hid (Below w.heap.size w ((v1.alloc (Obj.cells #[.slice ta2 hh.terms.length tc2, .slice na2 hh.names.length nc2, .slice ra2 hh.rules.length rc2] 25)).alloc (Obj.cells #[.int .i64 E, .int .i64 At] 30))) := hV1.out.trans (bB2.out.mono hV1.out.size)
      clear hv1 ho2 hV1
      by_cases hE0 : E = 0
      · subst hE0
        have HGH : Hid (Gr.good hh = true) := HCS.out rfl
        go_wp2_with (go_at_call 20; fail)
        generalize ((v1.alloc (Obj.cells #[.slice ta2 hh.terms.length tc2, .slice na2 hh.names.length nc2, .slice ra2 hh.rules.length rc2] 25)).alloc (Obj.cells #[.int .i64 0, .int .i64 At] 30)) = V2 at *
        refine (showText_is hh ⟨ta2, tc2, na2, nc2, ra2, rc2⟩ tn2 tx2 V2 HM2.out gA2.out.at HT2.out).mono ?_
        rintro e v3 ⟨rfl, hv3⟩
        have kG3 : Hid _ := blk_at kG2.out hv3
        have gA3 : Hid _ := gA2.out.below hv3
        have hV3 : Hid _ := hV2.out.trans (hv3.mono hV2.out.size)
        clear hv3 kG2 kF2 gA2 hV2
        obtain ⟨h0, h1, h2', _⟩ := cells_three_z kG3.out
        by_cases hs2 : (Sh.allT hh hh.rules).size ≤ 2000
        · have HE2 : Hid (tn2 = 0 ∧ tx2 = Sh.allT hh hh.rules) := Sh.text_ok HGH.out hs2 HT2.out
          obtain ⟨rfl, rfl⟩ := HE2.out
          have HOT : Hid (ofS (Sh.allT hh hh.rules).data.toList = (0, 0, hh)) := Sh.of_text HGH.out hs2
          have hxl : (Sh.allT hh hh.rules).size ≤ maxLen := by unfold maxLen; omega
          generalize Sh.allT hh hh.rules = tx2 at *
          go_wp2_with (go_at_call 10; fail)
          refine (of_is tx2 0 0 hh v3 hxl HOT).mono ?_
          rintro e v4 ⟨⟨ta4, tc4, na4, nc4, ra4, rc4⟩, rfl, hv4, ho4⟩
          simp only [gmCells]
          have bB4 : Hid (Below v4.heap.size v4 ((v4.alloc (Obj.cells #[.slice ta4 hh.terms.length tc4, .slice na4 hh.names.length nc4, .slice ra4 hh.rules.length rc4] 25)).alloc (Obj.cells #[.int .i64 0, .int .i64 0] 30))) := ((Below.refl _ v4).alloc (Nat.le_refl _) _).alloc (by simp) _
          have kG4 : Hid (((v4.alloc (Obj.cells #[.slice ta4 hh.terms.length tc4, .slice na4 hh.names.length nc4, .slice ra4 hh.rules.length rc4] 25)).alloc (Obj.cells #[.int .i64 0, .int .i64 0] 30)).heap[v4.heap.size]? = some (.cells #[.slice ta4 hh.terms.length tc4, .slice na4 hh.names.length nc4, .slice ra4 hh.rules.length rc4] 25 (0, 0))) := by
            show _ = _; rw [Below.heap_alloc _ _ _ (by simp)]; exact heap_alloc_new v4 _
          have kF4 : Hid (((v4.alloc (Obj.cells #[.slice ta4 hh.terms.length tc4, .slice na4 hh.names.length nc4, .slice ra4 hh.rules.length rc4] 25)).alloc (Obj.cells #[.int .i64 0, .int .i64 0] 30)).heap[v4.heap.size + 1]? = some (.cells #[.int .i64 0, .int .i64 0] 30 (0, 0))) := by
            show _ = _
            have := heap_alloc_new (v4.alloc (Obj.cells #[.slice ta4 hh.terms.length tc4, .slice na4 hh.names.length nc4, .slice ra4 hh.rules.length rc4] 25)) (Obj.cells #[.int .i64 0, .int .i64 0] 30)
            simpa using this
          have gB5 : Hid _ := ho4.out.below bB4.out
          have hV4 : Hid _ := hV3.out.trans (hv4.out.mono hV3.out.size)
          have hV5 : Hid _ := hV4.out.trans (bB4.out.mono hV4.out.size)
          have kG5 : Hid _ := blk_at (blk_at kG3.out hv4.out) bB4.out
          have gA5 : Hid _ := (gA3.out.below hv4.out).below bB4.out
          clear hv4 ho4 hV4 kG3 gA3 hV3 h0 h1 h2'
          go_wp2_with (go_at_call 20; fail)
          generalize ((v4.alloc (Obj.cells #[.slice ta4 hh.terms.length tc4, .slice na4 hh.names.length nc4, .slice ra4 hh.rules.length rc4] 25)).alloc (Obj.cells #[.int .i64 0, .int .i64 0] 30)) = V5 at *
          refine (showText_is hh ⟨ta4, tc4, na4, nc4, ra4, rc4⟩ 0 tx2 V5 HM2.out gB5.out.at HT2.out).mono ?_
          rintro e v6 ⟨rfl, hv6⟩
          obtain ⟨f0, f1, _⟩ := cells_two_z (blk_at kF4.out hv6)
          obtain ⟨i0, i1, i2, _⟩ := cells_three_z (blk_at kG4.out hv6)
          obtain ⟨j0, j1, j2, _⟩ := cells_three_z (blk_at kG5.out hv6)
          have gA6 : Hid _ := gA5.out.below hv6
          have gB6 : Hid _ := gB5.out.below hv6
          have hV6 : Hid _ := hV5.out.trans (hv6.mono hV5.out.size)
          clear hv6 gA5 gB5 hV5 kG5 kG4 kF4
          go_wp2_with (go_at_call 15; fail)
          refine (HK2.out v6 ⟨ta2, tc2, na2, nc2, ra2, rc2⟩ ⟨ta4, tc4, na4, nc4, ra4, rc4⟩ gA6.out.at gB6.out.at).mono ?_
          rintro e v7 ⟨rfl, hv7⟩
          have hV7 : Hid _ := hV6.out.trans (hv7.mono hV6.out.size)
          go_wp2_with (go_at_call 19; fail)
          refine (swakes_any _).mono ?_
          rintro e v8 ⟨rfl, hv8⟩
          go_wp2_with fail
          go_ret
          exact ⟨rfl, hV7.out.trans (hv8.mono hV7.out.size)⟩
        · have HE2 : Hid (tn2 = 14) := Sh.text_large HGH.out hs2 HT2.out
          have e14 := HE2.out
          subst e14
          go_wp2_with (go_at_call 19; fail)
          refine (swakes_any _).mono ?_
          rintro e v4 ⟨rfl, hv4⟩
          go_wp2_with fail
          go_ret
          exact ⟨rfl, hV3.out.trans (hv4.mono hV3.out.size)⟩
      · have hEn : (E != 0) = true := by simpa using hE0
        obtain ⟨f0, f1, _⟩ := cells_two_z kF2.out
        go_wp2_with (go_at_call 19; fail)
        refine (swakes_any _).mono ?_
        rintro e v4 ⟨rfl, hv4⟩
        go_wp2_with fail
        go_ret
        exact ⟨rfl, hV2.out.trans (hv4.mono hV2.out.size)⟩
    · have h0d : (tn == 0) = false := by simpa using h0
      go_wp2_with (go_at_call 10; fail)
      refine (of_is s E At hh w2 hs HOS).mono ?_
      rintro e v1 ⟨⟨ta2, tc2, na2, nc2, ra2, rc2⟩, rfl, hv1, ho2⟩
      simp only [gmCells]
      have bB2 : Hid (Below v1.heap.size v1 ((v1.alloc (Obj.cells #[.slice ta2 hh.terms.length tc2, .slice na2 hh.names.length nc2, .slice ra2 hh.rules.length rc2] 25)).alloc (Obj.cells #[.int .i64 E, .int .i64 At] 30))) := ((Below.refl _ v1).alloc (Nat.le_refl _) _).alloc (by simp) _
      have kG2 : Hid (((v1.alloc (Obj.cells #[.slice ta2 hh.terms.length tc2, .slice na2 hh.names.length nc2, .slice ra2 hh.rules.length rc2] 25)).alloc (Obj.cells #[.int .i64 E, .int .i64 At] 30)).heap[v1.heap.size]? = some (.cells #[.slice ta2 hh.terms.length tc2, .slice na2 hh.names.length nc2, .slice ra2 hh.rules.length rc2] 25 (0, 0))) := by
        show _ = _; rw [Below.heap_alloc _ _ _ (by simp)]; exact heap_alloc_new v1 _
      have kF2 : Hid (((v1.alloc (Obj.cells #[.slice ta2 hh.terms.length tc2, .slice na2 hh.names.length nc2, .slice ra2 hh.rules.length rc2] 25)).alloc (Obj.cells #[.int .i64 E, .int .i64 At] 30)).heap[v1.heap.size + 1]? = some (.cells #[.int .i64 E, .int .i64 At] 30 (0, 0))) := by
        show _ = _
        have := heap_alloc_new (v1.alloc (Obj.cells #[.slice ta2 hh.terms.length tc2, .slice na2 hh.names.length nc2, .slice ra2 hh.rules.length rc2] 25)) (Obj.cells #[.int .i64 E, .int .i64 At] 30)
        simpa using this
      have gA2 : Hid _ := ho2.out.below bB2.out
      have hV1 : Hid _ := HB2.out.trans (hv1.out.mono HB2.out.size)
      have hV2 : Hid (Below w.heap.size w ((v1.alloc (Obj.cells #[.slice ta2 hh.terms.length tc2, .slice na2 hh.names.length nc2, .slice ra2 hh.rules.length rc2] 25)).alloc (Obj.cells #[.int .i64 E, .int .i64 At] 30))) := hV1.out.trans (bB2.out.mono hV1.out.size)
      clear hv1 ho2 hV1
      by_cases hE0 : E = 0
      · subst hE0
        have HGH : Hid (Gr.good hh = true) := HCS.out rfl
        go_wp2_with (go_at_call 20; fail)
        generalize ((v1.alloc (Obj.cells #[.slice ta2 hh.terms.length tc2, .slice na2 hh.names.length nc2, .slice ra2 hh.rules.length rc2] 25)).alloc (Obj.cells #[.int .i64 0, .int .i64 At] 30)) = V2 at *
        refine (showText_is hh ⟨ta2, tc2, na2, nc2, ra2, rc2⟩ tn2 tx2 V2 HM2.out gA2.out.at HT2.out).mono ?_
        rintro e v3 ⟨rfl, hv3⟩
        have kG3 : Hid _ := blk_at kG2.out hv3
        have gA3 : Hid _ := gA2.out.below hv3
        have hV3 : Hid _ := hV2.out.trans (hv3.mono hV2.out.size)
        clear hv3 kG2 kF2 gA2 hV2
        obtain ⟨h0, h1, h2', _⟩ := cells_three_z kG3.out
        by_cases hs2 : (Sh.allT hh hh.rules).size ≤ 2000
        · have HE2 : Hid (tn2 = 0 ∧ tx2 = Sh.allT hh hh.rules) := Sh.text_ok HGH.out hs2 HT2.out
          obtain ⟨rfl, rfl⟩ := HE2.out
          have HOT : Hid (ofS (Sh.allT hh hh.rules).data.toList = (0, 0, hh)) := Sh.of_text HGH.out hs2
          have hxl : (Sh.allT hh hh.rules).size ≤ maxLen := by unfold maxLen; omega
          generalize Sh.allT hh hh.rules = tx2 at *
          go_wp2_with (go_at_call 10; fail)
          refine (of_is tx2 0 0 hh v3 hxl HOT).mono ?_
          rintro e v4 ⟨⟨ta4, tc4, na4, nc4, ra4, rc4⟩, rfl, hv4, ho4⟩
          simp only [gmCells]
          have bB4 : Hid (Below v4.heap.size v4 ((v4.alloc (Obj.cells #[.slice ta4 hh.terms.length tc4, .slice na4 hh.names.length nc4, .slice ra4 hh.rules.length rc4] 25)).alloc (Obj.cells #[.int .i64 0, .int .i64 0] 30))) := ((Below.refl _ v4).alloc (Nat.le_refl _) _).alloc (by simp) _
          have kG4 : Hid (((v4.alloc (Obj.cells #[.slice ta4 hh.terms.length tc4, .slice na4 hh.names.length nc4, .slice ra4 hh.rules.length rc4] 25)).alloc (Obj.cells #[.int .i64 0, .int .i64 0] 30)).heap[v4.heap.size]? = some (.cells #[.slice ta4 hh.terms.length tc4, .slice na4 hh.names.length nc4, .slice ra4 hh.rules.length rc4] 25 (0, 0))) := by
            show _ = _; rw [Below.heap_alloc _ _ _ (by simp)]; exact heap_alloc_new v4 _
          have kF4 : Hid (((v4.alloc (Obj.cells #[.slice ta4 hh.terms.length tc4, .slice na4 hh.names.length nc4, .slice ra4 hh.rules.length rc4] 25)).alloc (Obj.cells #[.int .i64 0, .int .i64 0] 30)).heap[v4.heap.size + 1]? = some (.cells #[.int .i64 0, .int .i64 0] 30 (0, 0))) := by
            show _ = _
            have := heap_alloc_new (v4.alloc (Obj.cells #[.slice ta4 hh.terms.length tc4, .slice na4 hh.names.length nc4, .slice ra4 hh.rules.length rc4] 25)) (Obj.cells #[.int .i64 0, .int .i64 0] 30)
            simpa using this
          have gB5 : Hid _ := ho4.out.below bB4.out
          have hV4 : Hid _ := hV3.out.trans (hv4.out.mono hV3.out.size)
          have hV5 : Hid _ := hV4.out.trans (bB4.out.mono hV4.out.size)
          have kG5 : Hid _ := blk_at (blk_at kG3.out hv4.out) bB4.out
          have gA5 : Hid _ := (gA3.out.below hv4.out).below bB4.out
          clear hv4 ho4 hV4 kG3 gA3 hV3 h0 h1 h2'
          go_wp2_with (go_at_call 20; fail)
          generalize ((v4.alloc (Obj.cells #[.slice ta4 hh.terms.length tc4, .slice na4 hh.names.length nc4, .slice ra4 hh.rules.length rc4] 25)).alloc (Obj.cells #[.int .i64 0, .int .i64 0] 30)) = V5 at *
          refine (showText_is hh ⟨ta4, tc4, na4, nc4, ra4, rc4⟩ 0 tx2 V5 HM2.out gB5.out.at HT2.out).mono ?_
          rintro e v6 ⟨rfl, hv6⟩
          obtain ⟨f0, f1, _⟩ := cells_two_z (blk_at kF4.out hv6)
          obtain ⟨i0, i1, i2, _⟩ := cells_three_z (blk_at kG4.out hv6)
          obtain ⟨j0, j1, j2, _⟩ := cells_three_z (blk_at kG5.out hv6)
          have gA6 : Hid _ := gA5.out.below hv6
          have gB6 : Hid _ := gB5.out.below hv6
          have hV6 : Hid _ := hV5.out.trans (hv6.mono hV5.out.size)
          clear hv6 gA5 gB5 hV5 kG5 kG4 kF4
          go_wp2_with (go_at_call 15; fail)
          refine (HK2.out v6 ⟨ta2, tc2, na2, nc2, ra2, rc2⟩ ⟨ta4, tc4, na4, nc4, ra4, rc4⟩ gA6.out.at gB6.out.at).mono ?_
          rintro e v7 ⟨rfl, hv7⟩
          have hV7 : Hid _ := hV6.out.trans (hv7.mono hV6.out.size)
          go_wp2_with (go_at_call 19; fail)
          refine (swakes_any _).mono ?_
          rintro e v8 ⟨rfl, hv8⟩
          go_wp2_with fail
          go_ret
          exact ⟨rfl, hV7.out.trans (hv8.mono hV7.out.size)⟩
        · have HE2 : Hid (tn2 = 14) := Sh.text_large HGH.out hs2 HT2.out
          have e14 := HE2.out
          subst e14
          go_wp2_with (go_at_call 19; fail)
          refine (swakes_any _).mono ?_
          rintro e v4 ⟨rfl, hv4⟩
          go_wp2_with fail
          go_ret
          exact ⟨rfl, hV3.out.trans (hv4.mono hV3.out.size)⟩
      · have hEn : (E != 0) = true := by simpa using hE0
        obtain ⟨f0, f1, _⟩ := cells_two_z kF2.out
        go_wp2_with (go_at_call 19; fail)
        refine (swakes_any _).mono ?_
        rintro e v4 ⟨rfl, hv4⟩
        go_wp2_with fail
        go_ret
        exact ⟨rfl, hV2.out.trans (hv4.mono hV2.out.size)⟩
  · have HL1 : Hid (∀ (W : World), Below w.heap.size w W → _) := fun W hW => HLG.out true W hW hl
    clear hl HLG h hr hm
    simp only [gmCells] at HL1 ⊢
    go_enter Try.func5, Try.ntmps5
    go_wp2_with (go_at_call 8; fail)
    refine (HL1.out _ hbW.out).mono ?_
    rintro e w1 ⟨rfl, hb1⟩
    have HB1 : Hid (Below w.heap.size w w1) := hbW.out.trans (hb1.mono hbW.out.size)
    go_wp2_with (go_at_call 19; fail)
    refine (swakes_any _).mono ?_
    rintro e w3 ⟨rfl, hb3⟩
    go_wp2_with fail
    go_ret
    exact ⟨rfl, HB1.out.trans (hb3.mono HB1.out.size)⟩
end Go.Proofs.Ytnphfhoknnnciaa
