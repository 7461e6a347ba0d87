/-
  The law FollowHolds, walked: it returns true, of every grammar.
-/
import Derived.Test.YtdocbgfpnaiijaaGreatFoMark
import Derived.Test.YtdocbgfpnaiijaaGreatRuleLib
import Derived.Test.YtdocbgfpnaiijaaGreatGrRefGood
import Derived.Test.YtdocbgfpnaiijaaGreatFoBegun
import Derived.Test.YtdocbgfpnaiijaaGreatFiOf
namespace Go.Proofs.YtdocbgfpnaiijaaGreat
open Go.RowKit Go.Conc

theorem wpFacts_skip10 {P : Program} {ops : Array Oper} {w0 : World} {Q : Exit → Act → World → Prop} {all ss : List Spec} {tl : List Oper} {o : Oper} {rest : List Oper} {vs : List Value} {a : Act} (hw : Region.wanted o (yielded ops a.tmps) = false)
    (h2 : wpFacts P ops Lat w0 Q all tl ss rest (vs ++ [undef]) (a.put o.dst undef)) : wpFacts P ops Lat w0 Q all tl (.val undef :: ss) (o :: rest) vs a :=
  ⟨fun w hR hd => by unfold StepF; rw [if_neg (by rw [hw]; simp)]; rfl, h2⟩
theorem Fo.ofG_mem2 {g : Gr.Gm} {l : List Int} (ho : Fi.okG g l = true) {t : Int} : t ∈ Fi.ofG g l ↔ ∃ x ∈ Fi.heads (Nl.of g) l, Fi.Beg g.rules (Nl.of g) g.terms.length x t := by
  have hs : ∀ s ∈ l, 0 ≤ s ∧ s < ((g.terms.length + g.names.length : Nat) : Int) := Fi.syms_iff.1 (by unfold Fi.okG at ho; simp only [Bool.and_eq_true] at ho; exact ho.2)
  unfold Fi.ofG
  rw [if_pos ho, Fi.mem_rise, Fi.ofL_at (Fi.tab_shape g)]
  constructor
  · rintro ⟨x, hx, q⟩
    exact ⟨x, hx, (Fi.rows_has (hs x (Fi.heads_mem hx)).1 (hs x (Fi.heads_mem hx)).2).1 q⟩
  · rintro ⟨x, hx, q⟩
    exact ⟨x, hx, (Fi.rows_has (hs x (Fi.heads_mem hx)).1 (hs x (Fi.heads_mem hx)).2).2 q⟩
theorem Fo.ofG_short2 (g : Gr.Gm) (l : List Int) : (Fi.ofG g l).length ≤ g.terms.length := by
  unfold Fi.ofG
  split
  · exact Nat.le_trans (Fi.riseTo_len _ _) (by rw [Fi.ofL_len]; exact Nat.le_refl _)
  · exact Nat.zero_le _
theorem Fo.okG_drop {g : Gr.Gm} (hg : Gr.good g = true) {q : Gr.Rl} (hq : q ∈ g.rules) (k : Nat) : Fi.okG g (q.2.drop k) = true := by
  unfold Fi.okG
  rw [hg, Bool.true_and]
  exact Fi.syms_iff.2 fun s hs => (Nl.fit_of hg).right _ hq s (List.mem_of_mem_drop hs)

/-- what an occurrence of a rule of l asks for, if it is v -/
def Fo.QA (g : Gr.Gm) (v l : Int) (rest : List Int) : Prop := v ∈ Fi.ofG g rest ∨ (Nl.allIn (Nl.of g) rest = true ∧ v ∈ (Fo.setsG g).getD (l - (g.terms.length : Int)).toNat [])
/-- it is told already, or some occurrence that has not been looked at tells it -/
def Fo.Wit (g : Gr.Gm) (b : Nat) (v : Int) (i k : Nat) (y : Bool) : Prop := y = true ∨ ∃ (r rk : Nat) (hr : r < g.rules.length) (hk : rk < g.rules[r].2.length), (i < r ∨ (i = r ∧ k ≤ rk)) ∧ g.rules[r].2[rk] = (g.terms.length : Int) + (b : Int) ∧ Fo.QA g v g.rules[r].1 (g.rules[r].2.drop (rk + 1))
theorem Fo.Wit.begin {g : Gr.Gm} (hg : Gr.good g = true) {b : Nat} (hb : b < g.names.length) {v : Int} (hv : v ∈ (Fo.setsG g).getD b []) : Fo.Wit g b v 0 0 (decide ((b : Int) = 0) && decide (v = ((g.terms.length + g.names.length : Nat) : Int))) := by
  rw [Fo.setsG_mem hg b hb] at hv
  have hf := Nl.fit_of hg
  rcases Fo.Reach.cases' hv with (⟨h1, h2⟩ | ⟨l, rest, ⟨r, hr, k, hk, hx, rfl, h3, rfl⟩, y, hy, hbg⟩) | ⟨a, ⟨rest, ⟨r, hr, k, hk, hx, rfl, h3, rfl⟩, ha⟩, hr2⟩
  · exact .inl (by rw [decide_eq_true h1, decide_eq_true h2]; rfl)
  · obtain ⟨i, hi, rfl⟩ := List.getElem_of_mem hr
    exact .inr ⟨i, k, hi, hk, by omega, by omega, .inl ((Fo.ofG_mem2 (Fo.okG_drop hg hr _)).2 ⟨y, hy, hbg⟩)⟩
  · obtain ⟨i, hi, rfl⟩ := List.getElem_of_mem hr
    have hl := hf.left _ hr
    have e : (((g.rules[i].1 - (g.terms.length : Int)).toNat : Nat) : Int) = g.rules[i].1 - (g.terms.length : Int) := by omega
    exact .inr ⟨i, k, hi, hk, by omega, by omega, .inr ⟨ha, (Fo.setsG_mem hg _ (by omega) v).2 (by rw [e]; exact hr2)⟩⟩
theorem Fo.Wit.skip {g : Gr.Gm} {b : Nat} {v : Int} {i k : Nat} {y : Bool} (h : Fo.Wit g b v i k y) (hi : i < g.rules.length) (hk : k < g.rules[i].2.length) (hx : g.rules[i].2[k] ≠ (g.terms.length : Int) + (b : Int)) : Fo.Wit g b v i (k + 1) y := by
  rcases h with h | ⟨r, rk, hr, hrk, h1, h2, h3⟩
  · exact .inl h
  · refine .inr ⟨r, rk, hr, hrk, ?_, h2, h3⟩
    rcases h1 with h1 | ⟨rfl, h1⟩
    · exact .inl h1
    · by_cases e : k = rk
      · subst e; exact absurd h2 hx
      · exact .inr ⟨rfl, by omega⟩
theorem Fo.Wit.step {g : Gr.Gm} {b : Nat} {v : Int} {i k : Nat} {y y' : Bool} (h : Fo.Wit g b v i k y) (hi : i < g.rules.length) (h1 : y = true → y' = true) (h2 : Fo.QA g v g.rules[i].1 (g.rules[i].2.drop (k + 1)) → y' = true) : Fo.Wit g b v i (k + 1) y' := by
  rcases h with h | ⟨r, rk, hr, hrk, a1, a2, a3⟩
  · exact .inl (h1 h)
  · rcases a1 with a1 | ⟨rfl, a1⟩
    · exact .inr ⟨r, rk, hr, hrk, .inl a1, a2, a3⟩
    · by_cases e : k = rk
      · subst e; exact .inl (h2 a3)
      · exact .inr ⟨i, rk, hr, hrk, .inr ⟨rfl, by omega⟩, a2, a3⟩
theorem Fo.Wit.rule {g : Gr.Gm} {b : Nat} {v : Int} {i : Nat} {y : Bool} (hi : i < g.rules.length) (h : Fo.Wit g b v i g.rules[i].2.length y) : Fo.Wit g b v (i + 1) 0 y := by
  rcases h with h | ⟨r, rk, hr, hrk, a1, a2, a3⟩
  · exact .inl h
  · refine .inr ⟨r, rk, hr, hrk, ?_, a2, a3⟩
    rcases a1 with a1 | ⟨rfl, a1⟩
    · omega
    · omega
theorem Fo.Wit.done {g : Gr.Gm} {b : Nat} {v : Int} {y : Bool} (h : Fo.Wit g b v g.rules.length 0 y) : y = true := by
  rcases h with h | ⟨r, rk, hr, hrk, a1, _⟩
  · exact h
  · omega
theorem Fo.closed {g : Gr.Gm} (hg : Gr.good g = true) {i k : Nat} (hi : i < g.rules.length) (hk : k < g.rules[i].2.length) (hx : (g.terms.length : Int) ≤ g.rules[i].2[k]) : (∀ v ∈ Fi.ofG g (g.rules[i].2.drop (k + 1)), v ∈ (Fo.setsG g).getD (g.rules[i].2[k] - (g.terms.length : Int)).toNat []) ∧ (Nl.allIn (Nl.of g) (g.rules[i].2.drop (k + 1)) = true → ∀ v ∈ (Fo.setsG g).getD (g.rules[i].1 - (g.terms.length : Int)).toNat [], v ∈ (Fo.setsG g).getD (g.rules[i].2[k] - (g.terms.length : Int)).toNat []) := by
  have hf := Nl.fit_of hg
  have hm : g.rules[i] ∈ g.rules := List.getElem_mem hi
  have hl := hf.left _ hm
  have hxx := hf.right _ hm _ (List.getElem_mem hk)
  have e1 : (((g.rules[i].1 - (g.terms.length : Int)).toNat : Nat) : Int) = g.rules[i].1 - (g.terms.length : Int) := by omega
  have e2 : (((g.rules[i].2[k] - (g.terms.length : Int)).toNat : Nat) : Int) = g.rules[i].2[k] - (g.terms.length : Int) := by omega
  have hocc : Fo.Occ g.terms.length g.rules (g.rules[i].1 - (g.terms.length : Int)) (g.rules[i].2[k] - (g.terms.length : Int)) (g.rules[i].2.drop (k + 1)) := ⟨_, hm, k, hk, hx, rfl, rfl, rfl⟩
  refine ⟨fun v hv => ?_, fun ha v hv => ?_⟩
  · rw [Fo.setsG_mem hg _ (by omega), e2]
    exact .base _ _ (.inr ⟨_, _, hocc, (Fo.ofG_mem2 (Fo.okG_drop hg hm _)).1 hv⟩)
  · rw [Fo.setsG_mem hg _ (by omega), e1] at hv
    rw [Fo.setsG_mem hg _ (by omega), e2]
    exact .step _ _ _ ⟨_, hocc, ha⟩ hv
theorem Fo.setsG_row {g : Gr.Gm} (hg : Gr.good g = true) (b : Nat) (hb : b < g.names.length) : ((Fo.setsG g).getD b []).length ≤ 81 ∧ ((Fo.setsG g).getD b []).Pairwise (· < ·) := by
  have hsz := (Nl.sizes_of hg).1
  have hl : b < (Fo.setsG g).length := by rw [Fo.setsG_len hg]; exact hb
  have e : (Fo.setsG g).getD b [] = (Fo.setsG g)[b] := by simp [List.getD_eq_getElem?_getD, hl]
  rw [e]
  exact ⟨Nat.le_trans (Fo.setsG_short g _ (List.getElem_mem hl)) (by omega), Fo.setsG_sorted g _ (List.getElem_mem hl)⟩

set_option maxRecDepth 100000 in
set_option maxHeartbeats 3200000 in
theorem followHolds_out (g : Gr.Gm) (A : GA) (w : World) (h : GmAt w.heap.size w g A) (hm : ∀ r ∈ g.rules, r.2.length ≤ maxLen) (hl : Gr.large g = true ∨ Gr.large g = false ∧ (Gr.good g = false ∨ Gr.good g = true ∧ (Fo.light g = false))) :
    Calls Tryz.prog 4 #[.agg (gmCells g A)] w fun e w' => e = .returned (.bool true) ∧ Below w.heap.size w w' := by
  obtain ⟨ta, tc, na, nc, ra, rc⟩ := A
  have hbW : Hid (Below w.heap.size w (w.alloc (Obj.cells #[.slice ta g.terms.length tc, .slice na g.names.length nc, .slice ra g.rules.length rc] 25))) := (Below.refl _ w).alloc (Nat.le_refl _) _
  have b0 : Hid ((w.alloc (Obj.cells #[.slice ta g.terms.length tc, .slice na g.names.length nc, .slice ra g.rules.length rc] 25)).heap[w.heap.size]? = some (.cells #[.slice ta g.terms.length tc, .slice na g.names.length nc, .slice ra g.rules.length rc] 25 (0, 0))) := heap_alloc_new w _
  have HLG : Hid (∀ (r : Bool) (W : World), Below w.heap.size w W → Gr.large g = r → Calls Tryz.prog 5 #[.agg (gmCells g ⟨ta, tc, na, nc, ra, rc⟩)] W fun e w' => e = .returned (.bool r) ∧ Below W.heap.size W w') := fun r W hW hl => large_is r g _ W hm (h.later hW).size hl
  have HGD : Hid (∀ (r : Bool) (W : World), Below w.heap.size w W → Gr.good g = r → Calls Tryz.prog 6 #[.agg (gmCells g ⟨ta, tc, na, nc, ra, rc⟩)] W fun e w' => e = .returned (.bool r) ∧ Below W.heap.size W w') := fun r W hW hr => refGood_any r g _ W hm (h.next hW) (by rw [Gr.refGood_is]; exact hr)
  have HSM : Hid (∀ (r : Bool) (W : World), Fo.light g = r → Calls Tryz.prog 7 #[.agg (gmCells g ⟨ta, tc, na, nc, ra, rc⟩)] W fun e w' => e = .returned (.bool r) ∧ Below W.heap.size W w') := fun r W hr => small9_is r g _ W hr
  simp only [gmCells] at HLG HGD HSM ⊢
  clear h hm
  rcases hl with hl | ⟨hl, ho⟩
  · have HL1 : Hid (∀ _ : Unit, _) := fun _ => HLG.out true _ hbW.out hl
    clear HLG hl HGD HSM
    go_enter Tryz.func4, Tryz.ntmps4
    go_wp2_with (first | (go_at_call 5; refine Calls.mono (HL1.out ()) ?_; rintro e w1 ⟨rfl, hb1⟩) | (go_at_call 8; refine Calls.mono (fowakes_any _) ?_; rintro e w3 ⟨rfl, hb3⟩))
    go_ret
    exact ⟨rfl, (hbW.out.trans (hb1.mono hbW.out.size)).trans (hb3.mono (hbW.out.trans (hb1.mono hbW.out.size)).size)⟩
  · have HL1 : Hid (∀ _ : Unit, _) := fun _ => HLG.out false _ hbW.out hl
    clear HLG hl
    rcases ho with hg | ⟨hg, h8⟩
    · have HG1 : Hid (∀ (W : World), Below w.heap.size w W → _) := fun W hW => HGD.out false W hW hg
      clear hg HGD HSM
      go_enter Tryz.func4, Tryz.ntmps4
      go_wp2_with (go_at_call 5; fail)
      generalize (w.alloc (Obj.cells #[.slice ta g.terms.length tc, .slice na g.names.length nc, .slice ra g.rules.length rc] 25)) = W at *
      refine Calls.mono (HL1.out ()) ?_
      rintro e w1 ⟨rfl, hb1⟩
      have HB1 : Hid (Below w.heap.size w w1) := hbW.out.trans (hb1.mono hbW.out.size)
      obtain ⟨g0, g1, g2, _⟩ := cells_three_z ((hb1.block _ (Array.getElem?_eq_some_iff.1 b0.out).1).trans b0.out)
      clear hb1 b0 hbW HL1
      go_wp2_with (go_at_call 6; fail)
      refine Calls.mono (HG1.out _ HB1.out) ?_
      rintro e w2 ⟨rfl, hb2⟩
      have HB2 : Hid (Below w.heap.size w w2) := HB1.out.trans (hb2.mono HB1.out.size)
      clear g0 g1 g2 hb2 HB1 HG1
      go_wp2_with (go_at_call 8; refine Calls.mono (fowakes_any _) ?_; rintro e w3 ⟨rfl, hb3⟩)
      go_ret
      exact ⟨rfl, HB2.out.trans (hb3.mono HB2.out.size)⟩
    · have HG1 : Hid (∀ (W : World), Below w.heap.size w W → _) := fun W hW => HGD.out true W hW hg
      clear hg HGD
      go_enter Tryz.func4, Tryz.ntmps4
      go_wp2_with (go_at_call 5; fail)
      generalize (w.alloc (Obj.cells #[.slice ta g.terms.length tc, .slice na g.names.length nc, .slice ra g.rules.length rc] 25)) = W at *
      refine Calls.mono (HL1.out ()) ?_
      rintro e w1 ⟨rfl, hb1⟩
      have HB1 : Hid (Below w.heap.size w w1) := hbW.out.trans (hb1.mono hbW.out.size)
      have b1 : Hid (w1.heap[w.heap.size]? = some (.cells #[.slice ta g.terms.length tc, .slice na g.names.length nc, .slice ra g.rules.length rc] 25 (0, 0))) := (hb1.block _ (Array.getElem?_eq_some_iff.1 b0.out).1).trans b0.out
      obtain ⟨g0, g1, g2, _⟩ := cells_three_z b1.out
      clear hb1 b0 hbW HL1
      go_wp2_with (go_at_call 6; fail)
      refine Calls.mono (HG1.out _ HB1.out) ?_
      rintro e w2 ⟨rfl, hb2⟩
      have HB2 : Hid (Below w.heap.size w w2) := HB1.out.trans (hb2.mono HB1.out.size)
      have b2 : Hid (w2.heap[w.heap.size]? = some (.cells #[.slice ta g.terms.length tc, .slice na g.names.length nc, .slice ra g.rules.length rc] 25 (0, 0))) := (hb2.block _ (Array.getElem?_eq_some_iff.1 b1.out).1).trans b1.out
      clear g0 g1 g2
      obtain ⟨g0, g1, g2, _⟩ := cells_three_z b2.out
      clear hb2 HB1 HG1 b1
      have hs := h8
      have HS1 : Hid (∀ (W : World), _) := fun W => HSM.out false W hs
      clear hs HSM
      go_wp2_with (go_at_call 7; fail)
      refine Calls.mono (HS1.out _) ?_
      rintro e w4 ⟨rfl, hb4⟩
      have HB4 : Hid (Below w.heap.size w w4) := HB2.out.trans (hb4.mono HB2.out.size)
      clear g0 g1 g2 hb4 HB2 HS1 b2
      go_wp2_with (go_at_call 8; refine Calls.mono (fowakes_any _) ?_; rintro e w3 ⟨rfl, hb3⟩)
      go_ret
      exact ⟨rfl, HB4.out.trans (hb3.mono HB4.out.size)⟩

set_option maxRecDepth 100000 in
set_option maxHeartbeats 51200000 in
theorem followHolds_in (g : Gr.Gm) (A : GA) (w : World) (h : GmAt w.heap.size w g A) (hm : ∀ r ∈ g.rules, r.2.length ≤ maxLen) (hl : Gr.large g = false) (hg : Gr.good g = true) (hs9 : Fo.light g = true) :
    Calls Tryz.prog 4 #[.agg (gmCells g A)] w fun e w' => e = .returned (.bool true) ∧ Below w.heap.size w w' := by
  obtain ⟨ta, tc, na, nc, ra, rc⟩ := A
  have HM : Hid _ := hm
  have HG : Hid (GmAt w.heap.size w g ⟨ta, tc, na, nc, ra, rc⟩) := h
  obtain ⟨hsz, h8⟩ := Nl.sizes_of hg
  have H8 : Hid _ := h8
  have HF : Hid _ := Nl.fit_of hg
  have HGD0 : Hid (Gr.good g = true) := hg
  have hll : (Fo.setsG g).length = g.names.length := Fo.setsG_len hg
  have SROW : Hid (∀ (b : Nat), b < g.names.length → ((Fo.setsG g).getD b []).length ≤ 81 ∧ ((Fo.setsG g).getD b []).Pairwise (· < ·)) := fun b hb => Fo.setsG_row hg b hb
  have SIN : Hid (∀ (b : Nat), b < g.names.length → ∀ v ∈ (Fo.setsG g).getD b [], 0 ≤ v ∧ (v < g.terms.length ∨ v = ((g.terms.length + g.names.length : Nat) : Int))) := fun b hb => Fo.setsG_in hg b hb
  have SEND : Hid (((g.terms.length + g.names.length : Nat) : Int) ∈ (Fo.setsG g).getD 0 []) := (Fo.setsG_mem hg 0 (by omega) _).2 (.base _ _ (.inl ⟨rfl, rfl⟩))
  have HOF : Hid (∀ (W : World) (x : List Int) (yo : Option Addr) (yc : Nat), Below w.heap.size w W → IntsAt W.heap.size W yo x → x.length ≤ 4000 → x.length ≤ yc → Fi.okG g x = true → Calls Tryz.prog 18 #[.agg (gmCells g ⟨ta, tc, na, nc, ra, rc⟩), .slice yo x.length yc] W fun e w' => ∃ xo xc, e = .returned (.tuple #[.slice xo (Fi.ofG g x).length xc, .int .i64 0]) ∧ Hid (IntsAt w'.heap.size w' xo (Fi.ofG g x)) ∧ Hid (Below W.heap.size W w')) := fun W x yo yc hW hx h4 hc hok => fof_is g _ x yo yc 0 W hm (h.next hW) hx h4 hc (by rw [hok]; rfl)
  have HAL : Hid (∀ (W : World) (x : List Int) (yo : Option Addr) (yc : Nat) (r : Bool), Below w.heap.size w W → IntsAt W.heap.size W yo x → x.length ≤ 4000 → Nl.allIn (Nl.of g) x = r → Calls Tryz.prog 19 #[.agg (gmCells g ⟨ta, tc, na, nc, ra, rc⟩), .slice yo x.length yc] W fun e w' => e = .returned (.bool r) ∧ Below W.heap.size W w') := fun W x yo yc r hW hx h4 hr => nall_is r g _ x yo yc W hm (h.next hW) hx h4 (by simp [Nl.all, hg, hr])
  have hbW : Hid (Below w.heap.size w (w.alloc (Obj.cells #[.slice ta g.terms.length tc, .slice na g.names.length nc, .slice ra g.rules.length rc] 25))) := (Below.refl _ w).alloc (Nat.le_refl _) _
  have b0 : Hid ((w.alloc (Obj.cells #[.slice ta g.terms.length tc, .slice na g.names.length nc, .slice ra g.rules.length rc] 25)).heap[w.heap.size]? = some (.cells #[.slice ta g.terms.length tc, .slice na g.names.length nc, .slice ra g.rules.length rc] 25 (0, 0))) := heap_alloc_new w _
  have HL1 : Hid (∀ (W : World), Below w.heap.size w W → Calls Tryz.prog 5 #[.agg (gmCells g ⟨ta, tc, na, nc, ra, rc⟩)] W fun e w' => e = .returned (.bool false) ∧ Below W.heap.size W w') := fun W hW => large_is false g _ W hm (h.later hW).size hl
  have HGD : Hid (∀ (W : World), Below w.heap.size w W → Calls Tryz.prog 6 #[.agg (gmCells g ⟨ta, tc, na, nc, ra, rc⟩)] W fun e w' => e = .returned (.bool true) ∧ Below W.heap.size W w') := fun W hW => refGood_any true g _ W hm (h.next hW) (by rw [Gr.refGood_is]; exact hg)
  have HSM : Hid (∀ (W : World), Calls Tryz.prog 7 #[.agg (gmCells g ⟨ta, tc, na, nc, ra, rc⟩)] W fun e w' => e = .returned (.bool true) ∧ Below W.heap.size W w') := fun W => small9_is true g _ W hs9
  have HSE : Hid (∀ (W : World), Below w.heap.size w W → Calls Tryz.prog 10 #[.agg (gmCells g ⟨ta, tc, na, nc, ra, rc⟩)] W fun e w' => ∃ xo xc, e = .returned (.slice xo (Fo.setsG g).length xc) ∧ Hid (LisAt w'.heap.size w' xo (Fo.setsG g)) ∧ Hid (Below W.heap.size W w')) := fun W hW => fosets_is g _ W hm (h.next hW)
  rw [hll] at HSE
  simp only [gmCells] at HL1 HGD HSM HSE HOF HAL ⊢
  clear h hm h8 hg hl
  go_enter Tryz.func4, Tryz.ntmps4
  go_wp2_with (go_at_call 5; fail)
  generalize (w.alloc (Obj.cells #[.slice ta g.terms.length tc, .slice na g.names.length nc, .slice ra g.rules.length rc] 25)) = W at *
  refine Calls.mono (HL1.out _ hbW.out) ?_
  rintro e w1 ⟨rfl, hb1⟩
  have b1 : Hid (w1.heap[w.heap.size]? = some (.cells #[.slice ta g.terms.length tc, .slice na g.names.length nc, .slice ra g.rules.length rc] 25 (0, 0))) := (hb1.block _ (Array.getElem?_eq_some_iff.1 b0.out).1).trans b0.out
  have HB1 : Hid (Below w.heap.size w w1) := hbW.out.trans (hb1.mono hbW.out.size)
  obtain ⟨g0, g1, g2, _⟩ := cells_three_z b1.out
  clear hb1 b0 hbW HL1
  go_wp2_with (go_at_call 6; fail)
  refine Calls.mono (HGD.out _ HB1.out) ?_
  rintro e w2 ⟨rfl, hb2⟩
  have b2 : Hid (w2.heap[w.heap.size]? = some (.cells #[.slice ta g.terms.length tc, .slice na g.names.length nc, .slice ra g.rules.length rc] 25 (0, 0))) := (hb2.block _ (Array.getElem?_eq_some_iff.1 b1.out).1).trans b1.out
  have HB2 : Hid (Below w.heap.size w w2) := HB1.out.trans (hb2.mono HB1.out.size)
  clear g0 g1 g2 hb2 HB1 HGD b1
  obtain ⟨g0, g1, g2, _⟩ := cells_three_z b2.out
  go_wp2_with (go_at_call 7; fail)
  refine Calls.mono (HSM.out _) ?_
  rintro e w3 ⟨rfl, hb3⟩
  have kg3 : Hid (w3.heap[w.heap.size]? = some (.cells #[.slice ta g.terms.length tc, .slice na g.names.length nc, .slice ra g.rules.length rc] 25 (0, 0))) := (hb3.block _ (Array.getElem?_eq_some_iff.1 b2.out).1).trans b2.out
  have HB3 : Hid (Below w.heap.size w w3) := HB2.out.trans (hb3.mono HB2.out.size)
  clear g0 g1 g2 hb3 HB2 HSM b2
  obtain ⟨g0, g1, g2, _⟩ := cells_three_z kg3.out
  go_upto_region 3 with fail
  clear g0 g1 g2
  have HC0 : Hid (∀ w1 : World, Lat w3.drew w1 → w1.cell? ⟨w.heap.size, 0, none⟩ = some (.slice ta g.terms.length tc) ∧ w1.cell? ⟨w.heap.size, 1, none⟩ = some (.slice na g.names.length nc) ∧ w1.cell? ⟨w.heap.size, 2, none⟩ = some (.slice ra g.rules.length rc)) := fun w1 hL => by
    have h := cells_three_z ((hL.of_drew.block _ (Array.getElem?_eq_some_iff.1 kg3.out).1).trans kg3.out)
    exact ⟨h.1, h.2.1, h.2.2.1⟩
  obtain ⟨n, hnn⟩ : ∃ n, g.terms.length + g.names.length = n := ⟨_, rfl⟩
  have hnI : (g.terms.length : Int) + (g.names.length : Int) = (n : Int) := by omega
  rw [hnn] at SIN SEND
  have hw0 : IntKind.wrap .i64 ((g.terms.length : Int) + (g.names.length : Int)) = (n : Int) := by rw [hnI, IntKind.wrap_i64]; omega
  have hw0b : IntKind.wrap .i64 (n : Int) = (n : Int) := by rw [IntKind.wrap_i64]; omega
  refine wp_region_lat [.val (.pointer (some ⟨w.heap.size, 0, none⟩)), .val (.slice ta g.terms.length tc), .val (.int .i64 g.terms.length), .val (.pointer (some ⟨w.heap.size, 0, none⟩)), .val (.slice ta g.terms.length tc), .val (.int .i64 g.terms.length), .val (.pointer (some ⟨w.heap.size, 1, none⟩)), .val (.slice na g.names.length nc), .val (.int .i64 g.names.length), .val (.int .i64 (n : Int)), .val (.int .i64 g.terms.length), .val (.int .i64 (n : Int))] [] (by kernel_rfl) (by kernel_rfl) rfl ?kept0 ?walk0
  case kept0 => exact trivial
  case walk0 =>
    refine wpFacts_val (by rfl) (fun w1 hL hd K hK => ?_) ?_
    · go_simp
      exact hK _ (Lat.refl _)
    refine wpFacts_norm (by simp only [Act.put, List.setIfInBounds_toArray, List.set_cons_zero, List.set_cons_succ]; rfl) (by simp only [List.nil_append]; rfl) ?_
    refine wpFacts_val (by rfl) (fun w1 hL hd K hK => ?_) ?_
    · obtain ⟨d0, d1, d2⟩ := HC0.out w1 hL
      go_simp
      exact hK _ (Lat.refl _)
    refine wpFacts_norm (by simp only [Act.put, List.setIfInBounds_toArray, List.set_cons_zero, List.set_cons_succ]; rfl) (by simp only [List.cons_append, List.nil_append]; rfl) ?_
    refine wpFacts_val (by rfl) (fun w1 hL hd K hK => ?_) ?_
    · go_simp
      exact hK _ (Lat.refl _)
    refine wpFacts_norm (by simp only [Act.put, List.setIfInBounds_toArray, List.set_cons_zero, List.set_cons_succ]; rfl) (by simp only [List.cons_append, List.nil_append]; rfl) ?_
    refine wpFacts_val (by rfl) (fun w1 hL hd K hK => ?_) ?_
    · go_simp
      exact hK _ (Lat.refl _)
    refine wpFacts_norm (by simp only [Act.put, List.setIfInBounds_toArray, List.set_cons_zero, List.set_cons_succ]; rfl) (by simp only [List.cons_append, List.nil_append]; rfl) ?_
    refine wpFacts_val (by rfl) (fun w1 hL hd K hK => ?_) ?_
    · obtain ⟨d0, d1, d2⟩ := HC0.out w1 hL
      go_simp
      exact hK _ (Lat.refl _)
    refine wpFacts_norm (by simp only [Act.put, List.setIfInBounds_toArray, List.set_cons_zero, List.set_cons_succ]; rfl) (by simp only [List.cons_append, List.nil_append]; rfl) ?_
    refine wpFacts_val (by rfl) (fun w1 hL hd K hK => ?_) ?_
    · go_simp
      exact hK _ (Lat.refl _)
    refine wpFacts_norm (by simp only [Act.put, List.setIfInBounds_toArray, List.set_cons_zero, List.set_cons_succ]; rfl) (by simp only [List.cons_append, List.nil_append]; rfl) ?_
    refine wpFacts_val (by rfl) (fun w1 hL hd K hK => ?_) ?_
    · go_simp
      exact hK _ (Lat.refl _)
    refine wpFacts_norm (by simp only [Act.put, List.setIfInBounds_toArray, List.set_cons_zero, List.set_cons_succ]; rfl) (by simp only [List.cons_append, List.nil_append]; rfl) ?_
    refine wpFacts_val (by rfl) (fun w1 hL hd K hK => ?_) ?_
    · obtain ⟨d0, d1, d2⟩ := HC0.out w1 hL
      go_simp
      exact hK _ (Lat.refl _)
    refine wpFacts_norm (by simp only [Act.put, List.setIfInBounds_toArray, List.set_cons_zero, List.set_cons_succ]; rfl) (by simp only [List.cons_append, List.nil_append]; rfl) ?_
    refine wpFacts_val (by rfl) (fun w1 hL hd K hK => ?_) ?_
    · go_simp
      exact hK _ (Lat.refl _)
    refine wpFacts_norm (by simp only [Act.put, List.setIfInBounds_toArray, List.set_cons_zero, List.set_cons_succ]; rfl) (by simp only [List.cons_append, List.nil_append]; rfl) ?_
    refine wpFacts_val (by rfl) (fun w1 hL hd K hK => ?_) ?_
    · go_simp
      exact hK _ (Lat.refl _)
    refine wpFacts_norm (by simp only [Act.put, List.setIfInBounds_toArray, List.set_cons_zero, List.set_cons_succ]; rfl) (by simp only [List.cons_append, List.nil_append]; rfl) ?_
    refine wpFacts_val (by rfl) (fun w1 hL hd K hK => ?_) ?_
    · go_simp
      exact hK _ (Lat.refl _)
    refine wpFacts_norm (by simp only [Act.put, List.setIfInBounds_toArray, List.set_cons_zero, List.set_cons_succ]; rfl) (by simp only [List.cons_append, List.nil_append]; rfl) ?_
    refine wpFacts_val (by rfl) (fun w1 hL hd K hK => ?_) ?_
    · go_simp
      exact hK _ (Lat.refl _)
    refine wpFacts_norm (by simp only [Act.put, List.setIfInBounds_toArray, List.set_cons_zero, List.set_cons_succ]; rfl) (by simp only [List.cons_append, List.nil_append]; rfl) ?_
    intro WO hL0 ha0
    clear ha0 HC0
    have kO : Hid (WO.heap[w.heap.size]? = some (.cells #[.slice ta g.terms.length tc, .slice na g.names.length nc, .slice ra g.rules.length rc] 25 (0, 0))) := (hL0.of_drew.block _ (Array.getElem?_eq_some_iff.1 kg3.out).1).trans kg3.out
    have HBO : Hid (Below w.heap.size w WO) := HB3.out.trans (Below.mono hL0.of_drew HB3.out.size)
    clear hL0 kg3 HB3 hw0
    obtain ⟨g0, g1, g2, _⟩ := cells_three_z kO.out
    go_wp2_with (go_at_call 10; fail)
    refine Calls.mono (HSE.out _ HBO.out) ?_
    rintro e w5 ⟨so, sc, rfl, LG, hb5⟩
    have b5 : Hid (w5.heap[w.heap.size]? = some (.cells #[.slice ta g.terms.length tc, .slice na g.names.length nc, .slice ra g.rules.length rc] 25 (0, 0))) := (hb5.out.block _ (Array.getElem?_eq_some_iff.1 kO.out).1).trans kO.out
    have HB5 : Hid (Below w.heap.size w w5) := HBO.out.trans (hb5.out.mono HBO.out.size)
    clear g0 g1 g2 hb5 HBO kO HSE
    obtain ⟨sb, sof, rx0, cx0, rfl, _, _, s0, i0⟩ := LG.out 0 (by rw [hll]; omega)
    have SC : Hid (∀ (W : World), Below w5.heap.size w5 W → ∀ q, q < g.names.length → ∃ rx cx, W.cell? ⟨sb, sof + q, none⟩ = some (.slice rx ((Fo.setsG g).getD q []).length cx) ∧ IntsAt W.heap.size W rx ((Fo.setsG g).getD q []) ∧ sb < W.heap.size) := fun W hW q hq => by
      have hq2 : q < (Fo.setsG g).length := by rw [hll]; exact hq
      obtain ⟨sb2, sof2, rx, cx, e, _, hs, c, hI⟩ := (LG.out.later hW) q hq2
      simp only [Option.some.injEq, Addr.mk.injEq] at e
      obtain ⟨rfl, rfl, _⟩ := e
      have e2 : (Fo.setsG g).getD q [] = (Fo.setsG g)[q] := by simp [List.getD_eq_getElem?_getD, hq2]
      rw [e2]
      exact ⟨rx, cx, c, IntsAt.size hI, hs⟩
    have HBB : Hid (∀ W : World, Below w5.heap.size w5 W → Below w.heap.size w W ∧ W.heap[w.heap.size]? = some (.cells #[.slice ta g.terms.length tc, .slice na g.names.length nc, .slice ra g.rules.length rc] 25 (0, 0)) ∧ w5.heap.size ≤ W.heap.size) := fun W hW =>
      ⟨HB5.out.trans (hW.mono HB5.out.size), (hW.block _ (Array.getElem?_eq_some_iff.1 b5.out).1).trans b5.out, hW.size⟩
    have hN0 : 0 < g.names.length := by omega
    have hN0i : (0 : Int) < (g.names.length : Int) := by omega
    have hneq : ((g.names.length : Int) != (g.names.length : Int)) = false := by simp
    obtain ⟨g0, g1, g2, _⟩ := cells_three_z b5.out
    have hgz := (Array.getElem?_eq_some_iff.1 b5.out).1
    obtain ⟨rx, cx, c0, hI0, hsz5⟩ := SC.out w5 (Below.refl _ _) 0 hN0
    have HH0 : Hid (Calls Tryz.prog 17 #[.slice rx ((Fo.setsG g).getD 0 []).length cx, .int .i64 (n : Int)] w5 fun e w' => e = .returned (.bool true) ∧ w' = w5) := has_any true _ _ rx cx w5 hI0 (Nat.le_trans (SROW.out 0 hN0).1 (by omega)) (decide_eq_true SEND.out)
    rw [Nat.add_zero] at c0
    clear hI0 s0 i0 LG b5 HB5 SEND
    generalize (Fo.setsG g).getD 0 [] = z0 at *
    go_wp2_with (go_at_call 17; fail)
    refine Calls.mono HH0.out ?_
    rintro e w6 ⟨rfl, e6⟩
    subst w6
    clear g0 g1 g2 hgz c0 hsz5 HH0 hneq
    go_wp2_with fail
    go_loopw [6] (fun bv wr => ∃ b : Nat, b ≤ g.names.length ∧ bv = .int .i64 b ∧ Hid (Below w5.heap.size w5 wr)) (fun bv _ => g.names.length - (intOf bv).toNat)
    case atStart => exact ⟨0, Nat.zero_le _, rfl, Below.refl _ _⟩
    case round =>
      obtain ⟨b, hb, rfl, hB⟩ := hrel
      by_cases hbl : b < g.names.length
      · have hbi : (b : Int) < (g.names.length : Int) := by omega
        have hrow := SROW.out b hbl
        have hsin := SIN.out b hbl
        have WBEG : Hid (∀ v ∈ (Fo.setsG g).getD b [], Fo.Wit g b v 0 0 (decide ((b : Int) = 0) && decide (v = (n : Int)))) := fun v hv => by
          have := Fo.Wit.begin HGD0.out hbl hv
          rw [hnn] at this
          exact this
        have SCb : Hid (∀ (W : World), Below w5.heap.size w5 W → ∃ rx cx, W.cell? ⟨sb, sof + b, none⟩ = some (.slice rx ((Fo.setsG g).getD b []).length cx) ∧ IntsAt W.heap.size W rx ((Fo.setsG g).getD b []) ∧ sb < W.heap.size) := fun W hW => SC.out W hW b hbl
        have HSI : Hid _ := hsin
        have HPW : Hid _ := hrow.2
        have hxl := hrow.1
        clear hrow hsin
        generalize (Fo.setsG g).getD b [] = sv at *
        go_wp2_with fail
        go_loopw [7] (fun jv wr => ∃ j : Nat, j ≤ sv.length ∧ jv = .int .i64 j ∧ Hid (Below w5.heap.size w5 wr)) (fun jv _ => sv.length - (intOf jv).toNat)
        case atStart => exact ⟨0, Nat.zero_le _, rfl, hB⟩
        case round =>
          obtain ⟨j, hj, rfl, hB⟩ := hrel
          obtain ⟨rx, cx, c0, hI0, hsz5⟩ := SCb.out wr hB.out
          by_cases hjl : j < sv.length
          · have hji : (j : Int) < (sv.length : Int) := by omega
            obtain ⟨eb, eof, rfl, _, hel, c1⟩ := IntsAt.get hI0 j hjl
            have hvs := HSI.out _ (List.getElem_mem hjl)
            have W0 : Hid _ := WBEG.out _ (List.getElem_mem hjl)
            have PRV : Hid (∀ hj0 : 0 < j, wr.cell? ⟨eb, eof + (j - 1), none⟩ = some (.int .i64 (sv[j - 1]'(by omega))) ∧ (sv[j - 1]'(by omega)) < sv[j]) := fun hj0 => by
              obtain ⟨eb2, eof2, e, _, _, c2⟩ := IntsAt.get hI0 (j - 1) (by omega)
              simp only [Option.some.injEq, Addr.mk.injEq] at e
              obtain ⟨rfl, rfl, _⟩ := e
              exact ⟨c2, List.pairwise_iff_getElem.1 HPW.out (j - 1) j (by omega) hjl (by omega)⟩
            clear hI0
            generalize sv[j] = v at *
            go_upto_region 14 with fail
            go_cut [108] (fun u wd => u = .bool false ∧ wd = wr)
            case first =>
              by_cases hvT : v < (g.terms.length : Int)
              · by_cases hj0 : 0 < j
                · have hj0i : (0 : Int) < (j : Int) := by omega
                  have hjw : IntKind.wrap .i64 ((j : Int) - 1) = ((j - 1 : Nat) : Int) := by rw [IntKind.wrap_i64]; omega
                  have hjq : ((j - 1 : Nat) : Int) < (sv.length : Int) := by omega
                  obtain ⟨c2, hlt⟩ := PRV.out hj0
                  have hle : ¬ v ≤ sv[j - 1] := by omega
                  have hv0 : ¬ v < 0 := by omega
                  have hvT2 : ¬ (g.terms.length : Int) ≤ v := by omega
                  clear PRV hlt
                  generalize sv[j - 1] = pv at *
                  go_wp2_with fail
                  go_meet
                  case rel => exact ⟨rfl, rfl⟩
                · obtain rfl : j = 0 := by omega
                  have hv0 : ¬ v < 0 := by omega
                  have hvT2 : ¬ (g.terms.length : Int) ≤ v := by omega
                  clear PRV
                  go_wp2_with fail
                  go_meet
                  case rel => exact ⟨rfl, rfl⟩
              · obtain rfl : v = (n : Int) := by omega
                have hvn : ((n : Int) != (n : Int)) = false := by simp
                have hvT2 : (g.terms.length : Int) ≤ (n : Int) := by omega
                have hv0 : ¬ (n : Int) < 0 := by omega
                by_cases hj0 : 0 < j
                · have hj0i : (0 : Int) < (j : Int) := by omega
                  have hjw : IntKind.wrap .i64 ((j : Int) - 1) = ((j - 1 : Nat) : Int) := by rw [IntKind.wrap_i64]; omega
                  have hjq : ((j - 1 : Nat) : Int) < (sv.length : Int) := by omega
                  obtain ⟨c2, hlt⟩ := PRV.out hj0
                  have hle : ¬ (n : Int) ≤ sv[j - 1] := by omega
                  clear PRV hlt
                  generalize sv[j - 1] = pv at *
                  go_wp2_with fail
                  go_meet
                  case rel => exact ⟨rfl, rfl⟩
                · obtain rfl : j = 0 := by omega
                  clear PRV
                  go_wp2_with fail
                  go_meet
                  case rel => exact ⟨rfl, rfl⟩
            case rest =>
              obtain ⟨rfl, hwd⟩ := hcut
              subst hwd
              clear PRV c0 c1
              go_upto_region 16 with fail
              go_cut [9] (fun u wd => u = .bool (decide ((b : Int) = 0) && decide (v = (n : Int))) ∧ wd = wc)
              case first =>
                by_cases hb0 : (b : Int) = 0
                · have hb1 : ((b : Int) == 0) = true := by simp [hb0]
                  go_wp2_with fail
                  go_meet
                  case rel => exact ⟨by rw [decide_eq_true hb0, Bool.true_and]; rfl, rfl⟩
                · have hb1 : ((b : Int) == 0) = false := beq_eq_false_iff_ne.2 hb0
                  go_wp2_with fail
                  go_meet
                  case rel => exact ⟨by rw [decide_eq_false hb0, Bool.false_and], rfl⟩
              case rest =>
                obtain ⟨rfl, hwd⟩ := hcut
                subst hwd
                generalize (decide ((b : Int) = 0) && decide (v = (n : Int))) = y0 at *
                go_wp2_with fail
                go_loopw [9, 10] (fun yv iv wr => ∃ (y : Bool) (i : Nat), i ≤ g.rules.length ∧ yv = .bool y ∧ iv = .int .i64 i ∧ Hid (Below w5.heap.size w5 wr) ∧ Hid (Fo.Wit g b v i 0 y)) (fun _ iv _ => g.rules.length - (intOf iv).toNat)
                case atStart => exact ⟨y0, 0, Nat.zero_le _, rfl, rfl, hB, W0⟩
                case round =>
                  obtain ⟨y, i, hi, rfl, rfl, hB, hW⟩ := hrel
                  clear W0
                  obtain ⟨HBw, hgb, hz5⟩ := HBB.out wr hB.out
                  obtain ⟨g0, g1, g2, _⟩ := cells_three_z hgb
                  have hgz := (Array.getElem?_eq_some_iff.1 hgb).1
                  clear hgb
                  by_cases hil : i < g.rules.length
                  · have hii : (i : Int) < (g.rules.length : Int) := by omega
                    obtain ⟨rb, ro, yo, yc, rfl, _, _, k0, k1, ki, hyc, _⟩ := HG.out.rules i hil
                    have HBW : Hid (Below w.heap.size w wr) := HBw
                    replace k0 := cell_later HBW.out k0
                    replace k1 := cell_later HBW.out k1
                    have hmm : g.rules[i] ∈ g.rules := List.getElem_mem hil
                    have h8 := H8.out _ hmm
                    have hxin := HF.out.right _ hmm
                    have hlf := HF.out.left _ hmm
                    have OKD : Hid (∀ k, Fi.okG g (g.rules[i].2.drop k) = true) := fun k => Fo.okG_drop HGD0.out hmm k
                    have SK : Hid (∀ (k : Nat) (hk : k < g.rules[i].2.length) (y : Bool), Fo.Wit g b v i k y → g.rules[i].2[k] ≠ (g.terms.length : Int) + (b : Int) → Fo.Wit g b v i (k + 1) y) := fun k hk y h a => h.skip hil hk a
                    have ST : Hid (∀ (k : Nat) (hk : k < g.rules[i].2.length) (y y' : Bool), Fo.Wit g b v i k y → (y = true → y' = true) → (Fo.QA g v g.rules[i].1 (g.rules[i].2.drop (k + 1)) → y' = true) → Fo.Wit g b v i (k + 1) y') := fun k hk y y' h a c => h.step hil a c
                    have RU : Hid (∀ (y : Bool), Fo.Wit g b v i g.rules[i].2.length y → Fo.Wit g b v (i + 1) 0 y) := fun y h => h.rule hil
                    have KI : Hid (IntsAt w.heap.size w yo g.rules[i].2) := ki
                    clear ki hmm HBw
                    generalize g.rules[i] = qq at *
                    obtain ⟨lz, rs⟩ := qq
                    simp only at k0 k1 h8 hxin hlf hyc OKD KI SK ST RU
                    obtain ⟨l, rfl⟩ : ∃ l : Nat, lz = l := ⟨lz.toNat, by omega⟩
                    obtain ⟨lm, hlm⟩ : ∃ lm : Nat, (l : Int) - (g.terms.length : Int) = lm := ⟨((l : Int) - (g.terms.length : Int)).toNat, by omega⟩
                    have hlN : lm < g.names.length := by omega
                    have hlI : (lm : Int) < (g.names.length : Int) := by omega
                    have hwl : IntKind.wrap .i64 ((l : Int) - (g.terms.length : Int)) = (lm : Int) := by rw [hlm, IntKind.wrap_i64]; omega
                    have hwl2 : IntKind.wrap .i64 (lm : Int) = (lm : Int) := by rw [IntKind.wrap_i64]; omega
                    have hbn : Hid (Below wr.heap.size wr (wr.alloc (Obj.cells #[.int .i64 (l : Int), .slice yo rs.length yc] 43))) := (Below.refl _ wr).alloc (Nat.le_refl _) _
                    have kn : Hid ((wr.alloc (Obj.cells #[.int .i64 (l : Int), .slice yo rs.length yc] 43)).heap[wr.heap.size]? = some (.cells #[.int .i64 (l : Int), .slice yo rs.length yc] 43 (0, 0))) := heap_alloc_new wr _
                    have hB1 : Hid (Below w5.heap.size w5 (wr.alloc (Obj.cells #[.int .i64 (l : Int), .slice yo rs.length yc] 43))) := hB.out.trans (hbn.out.mono hz5)
                    clear hB hbn HBW
                    go_wp2_with fail
                    generalize (wr.alloc (Obj.cells #[.int .i64 (l : Int), .slice yo rs.length yc] 43)) = Wr at *
                    generalize wr.heap.size = R at *
                    clear k0 k1 g0 g1 g2 hgz hz5

                    go_loopw [9, 12] (fun yv kv wr => ∃ (y : Bool) (k : Nat), k ≤ rs.length ∧ yv = .bool y ∧ kv = .int .i64 k ∧ Hid (Below w5.heap.size w5 wr) ∧ Hid (wr.heap[R]? = some (.cells #[.int .i64 (l : Int), .slice yo rs.length yc] 43 (0, 0))) ∧ Hid (Fo.Wit g b v i k y)) (fun _ kv _ => rs.length - (intOf kv).toNat)
                    case atStart => exact ⟨y, 0, Nat.zero_le _, rfl, rfl, hB1, kn, hW⟩
                    case round =>
                      obtain ⟨y, k, hk, rfl, rfl, hB, hRb, hW⟩ := hrel
                      clear hB1 kn
                      obtain ⟨r0, r1, _⟩ := cells_two_z hRb.out
                      have hrz := (Array.getElem?_eq_some_iff.1 hRb.out).1
                      by_cases hkl : k < rs.length
                      · have hki : (k : Int) < (rs.length : Int) := by omega
                        obtain ⟨HBw, hgb, hz5⟩ := HBB.out wr hB.out
                        obtain ⟨xb, xof, rfl, _, _, x0⟩ := IntsAt.get (KI.out.later HBw) k hkl
                        have hx := hxin _ (List.getElem_mem hkl)
                        have SKk : Hid (rs[k] ≠ (g.terms.length : Int) + (b : Int) → Fo.Wit g b v i (k + 1) y) := fun a => SK.out k hkl y hW.out a
                        have STk : Hid (∀ y' : Bool, (y = true → y' = true) → (Fo.QA g v (l : Int) (rs.drop (k + 1)) → y' = true) → Fo.Wit g b v i (k + 1) y') := fun y' a c => ST.out k hkl y y' hW.out a c
                        have hwb : IntKind.wrap .i64 ((g.terms.length : Int) + (b : Int)) = (g.terms.length : Int) + (b : Int) := by rw [IntKind.wrap_i64]; omega
                        clear hW
                        generalize rs[k] = x at *
                        by_cases hxe : x = (g.terms.length : Int) + (b : Int)
                        · have hne : (x != (g.terms.length : Int) + (b : Int)) = false := by simp [hxe]
                          clear SKk
                          obtain ⟨row, hrow⟩ : ∃ row, rs.drop (k + 1) = row := ⟨_, rfl⟩
                          have hrwl : row.length = rs.length - (k + 1) := by rw [← hrow, List.length_drop]
                          obtain ⟨so2, hso⟩ : ∃ so2, (if yc = k + 1 then some (⟨xb, xof, none⟩ : Addr) else some ⟨xb, xof + (k + 1), none⟩) = so2 := ⟨_, rfl⟩
                          have hsl : ∀ W : World, (Instr.slice 31 (.slice (some ⟨xb, xof, none⟩) rs.length yc) (some (.int .i64 ((k : Int) + 1))) none none).run Tryz.prog W = .ok (.slice so2 row.length (yc - (k + 1))) W := fun W => by
                            have := slice_tailI xb xof rs.length yc (k + 1) (by omega) W
                            rw [hso, ← hrwl, show ((k + 1 : Nat) : Int) = (k : Int) + 1 from by omega] at this
                            exact this
                          have ROW : Hid (∀ W : World, IntsAt w.heap.size W (some ⟨xb, xof, none⟩) rs → IntsAt w.heap.size W so2 row) := fun W h q hq => by
                            have hq' : q < row.length := by simpa using hq
                            have hqr : k + 1 + q < rs.length := by omega
                            obtain ⟨b', o', e, h1, h2, h3⟩ := IntsAt.get h (k + 1 + q) hqr
                            simp only [Option.some.injEq, Addr.mk.injEq] at e
                            obtain ⟨rfl, rfl, _⟩ := e
                            have hne : ¬ yc = k + 1 := by omega
                            rw [if_neg hne] at hso
                            refine ⟨_, _, hso.symm, h1, h2, ?_⟩
                            rw [List.getElem_map, show xof + (k + 1) + q = xof + (k + 1 + q) from by omega, h3]
                            congr 2
                            simp only [← hrow, List.getElem_drop]
                          have HRW : Hid (row.length ≤ 4000 ∧ row.length ≤ yc - (k + 1)) := by constructor <;> omega
                          have hkw : IntKind.wrap .i64 ((k : Int) + 1) = (k : Int) + 1 := by rw [IntKind.wrap_i64]; omega
                          obtain ⟨f, hfe⟩ : ∃ f, Fi.ofG g row = f := ⟨_, rfl⟩
                          have FE : Hid (Fi.ofG g row = f) := hfe
                          have HC : Hid (∀ w1 : World, Lat wr.drew w1 → (w1.cell? ⟨w.heap.size, 0, none⟩ = some (.slice ta g.terms.length tc) ∧ w1.cell? ⟨w.heap.size, 1, none⟩ = some (.slice na g.names.length nc) ∧ w1.cell? ⟨w.heap.size, 2, none⟩ = some (.slice (some ⟨rb, ro, none⟩) g.rules.length rc)) ∧ w1.cell? ⟨R, 1, none⟩ = some (.slice (some ⟨xb, xof, none⟩) rs.length yc) ∧ w1.cell? ⟨R, 0, none⟩ = some (.int .i64 (l : Int))) := fun w1 hL => by
                            obtain ⟨g0, g1, g2, _⟩ := cells_three_z hgb
                            exact ⟨⟨cell_later hL.of_drew g0, cell_later hL.of_drew g1, cell_later hL.of_drew g2⟩, cell_later hL.of_drew r1, cell_later hL.of_drew r0⟩
                          have HO1 : Hid (∀ w1 : World, Lat wr.drew w1 → Calls Tryz.prog 18 #[.agg #[.slice ta g.terms.length tc, .slice na g.names.length nc, .slice (some ⟨rb, ro, none⟩) g.rules.length rc], .slice so2 row.length (yc - (k + 1))] w1 fun e w' => ∃ xo xc, e = .returned (.tuple #[.slice xo f.length xc, .int .i64 0]) ∧ Hid (IntsAt w'.heap.size w' xo f) ∧ Hid (Below w1.heap.size w1 w')) := fun w1 hL => by
                            have hb1 := HBw.trans (Below.mono hL.of_drew HBw.size)
                            have := HOF.out w1 row so2 _ hb1 ((ROW.out w1 (KI.out.later hb1)).size) HRW.out.1 HRW.out.2 (by rw [← hrow]; exact OKD.out _)
                            rw [hfe] at this
                            exact this
                          have hfl : f.length ≤ 40 := by rw [← hfe]; exact Nat.le_trans (Fo.ofG_short2 g row) (by omega)
                          obtain ⟨h1, hh1⟩ : ∃ h1, decide (v ∈ f) = h1 := ⟨_, rfl⟩
                          obtain ⟨al, hal⟩ : ∃ al, Nl.allIn (Nl.of g) row = al := ⟨_, rfl⟩
                          obtain ⟨h2, hh2⟩ : ∃ h2, decide (v ∈ (Fo.setsG g).getD lm []) = h2 := ⟨_, rfl⟩
                          have NS : Hid (∀ y' : Bool, (y = true → y' = true) → ((h1 = true ∨ (al = true ∧ h2 = true)) → y' = true) → Fo.Wit g b v i (k + 1) y') := fun y' a c => STk.out y' a fun q => c (by
                            rw [hrow] at q
                            unfold Fo.QA at q
                            rw [hfe, hal, show ((l : Int) - (g.terms.length : Int)).toNat = lm from by omega] at q
                            rw [← hh1, ← hh2, decide_eq_true_eq, decide_eq_true_eq]
                            exact q)
                          have HH1 : Hid (decide (v ∈ f) = h1) := hh1
                          have HH2 : Hid (decide (v ∈ (Fo.setsG g).getD lm []) = h2) := hh2
                          have HA1 : Hid (Nl.allIn (Nl.of g) row = al) := hal
                          clear STk hfe hh1 hh2 hal hrwl hso
                          go_upto_region 25 with fail
                          clear x0 r0 r1 hrz
                          as_aux_lemma =>
                            refine wp_region_lat [.val (.agg #[.slice ta g.terms.length tc, .slice na g.names.length nc, .slice (some ⟨rb, ro, none⟩) g.rules.length rc]), .val (.pointer (some ⟨R, 1, none⟩)), .val (.slice (some ⟨xb, xof, none⟩) rs.length yc), .val (.int .i64 k), .val (.int .i64 ((k : Int) + 1)), .val (.slice so2 row.length (yc - (k + 1))), .fact (fun v w' => ∃ xo xc, v = .tuple #[.slice xo f.length xc, .int .i64 0] ∧ IntsAt w'.heap.size w' xo f), .fact (fun v w' => ∃ xo xc, v = .tuple #[.slice xo f.length xc, .int .i64 0] ∧ IntsAt w'.heap.size w' xo f), .fact (fun v w' => ∃ xo xc, v = .slice xo f.length xc ∧ IntsAt w'.heap.size w' xo f), .val (.int .i64 0), .fact (fun v w' => ∃ xo xc, v = .slice xo f.length xc ∧ IntsAt w'.heap.size w' xo f), .val (.int .i64 0)] [] (by kernel_rfl) (by kernel_rfl) rfl ?kept25 ?walk25
                            case kept25 => exact ⟨fun v w1 w2 hL ⟨bo, bc, e, h1⟩ => ⟨bo, bc, e, IntsAt.size (h1.later hL)⟩, fun v w1 w2 hL ⟨bo, bc, e, h1⟩ => ⟨bo, bc, e, IntsAt.size (h1.later hL)⟩, fun v w1 w2 hL ⟨bo, bc, e, h1⟩ => ⟨bo, bc, e, IntsAt.size (h1.later hL)⟩, fun v w1 w2 hL ⟨bo, bc, e, h1⟩ => ⟨bo, bc, e, IntsAt.size (h1.later hL)⟩, trivial⟩
                            case walk25 =>
                              refine wpFacts_val (by rfl) (fun w1 hL hd K hK => ?_) ?_
                              · obtain ⟨⟨d0, d1, d2⟩, d3, d4⟩ := HC.out w1 hL
                                go_simp
                                exact hK _ (Lat.refl _)
                              refine wpFacts_norm (by simp only [Act.put, List.setIfInBounds_toArray, List.set_cons_zero, List.set_cons_succ]; rfl) (by simp only [List.nil_append]; rfl) ?_
                              refine wpFacts_val (by rfl) (fun w1 hL hd K hK => ?_) ?_
                              · go_simp
                                exact hK _ (Lat.refl _)
                              refine wpFacts_norm (by simp only [Act.put, List.setIfInBounds_toArray, List.set_cons_zero, List.set_cons_succ]; rfl) (by simp only [List.cons_append, List.nil_append]; rfl) ?_
                              refine wpFacts_val (by rfl) (fun w1 hL hd K hK => ?_) ?_
                              · obtain ⟨⟨d0, d1, d2⟩, d3, d4⟩ := HC.out w1 hL
                                go_simp
                                exact hK _ (Lat.refl _)
                              refine wpFacts_norm (by simp only [Act.put, List.setIfInBounds_toArray, List.set_cons_zero, List.set_cons_succ]; rfl) (by simp only [List.cons_append, List.nil_append]; rfl) ?_
                              refine wpFacts_val (by rfl) (fun w1 hL hd K hK => ?_) ?_
                              · go_simp
                                exact hK _ (Lat.refl _)
                              refine wpFacts_norm (by simp only [Act.put, List.setIfInBounds_toArray, List.set_cons_zero, List.set_cons_succ]; rfl) (by simp only [List.cons_append, List.nil_append]; rfl) ?_
                              refine wpFacts_val (by rfl) (fun w1 hL hd K hK => ?_) ?_
                              · go_simp
                                exact hK _ (Lat.refl _)
                              refine wpFacts_norm (by simp only [Act.put, List.setIfInBounds_toArray, List.set_cons_zero, List.set_cons_succ]; rfl) (by simp only [List.cons_append, List.nil_append]; rfl) ?_
                              refine wpFacts_val (by rfl) (fun w1 hL hd K hK => ?_) ?_
                              · go_simp
                                exact hK _ (Lat.refl _)
                              refine wpFacts_norm (by simp only [Act.put, List.setIfInBounds_toArray, List.set_cons_zero, List.set_cons_succ]; rfl) (by simp only [List.cons_append, List.nil_append]; rfl) ?_
                              refine wpFacts_fact (by rfl) (fun w1 hL hd K hK => ?_) (fun v1 => ?_)
                              · go_simp
                                refine Calls.mono (HO1.out w1 hL) ?_
                                rintro e w9 ⟨bo, bc, rfl, hb8, hb9⟩
                                exact hK _ _ hb9.out ⟨bo, bc, rfl, hb8.out⟩
                              refine wpFacts_norm (by simp only [Act.put, List.setIfInBounds_toArray, List.set_cons_zero, List.set_cons_succ]; rfl) (by simp only [List.cons_append, List.nil_append]; rfl) ?_
                              refine wpFacts_fact (by rfl) (fun w1 hL hd K hK => ?_) (fun v2 => ?_)
                              · obtain ⟨bo, bc, rfl, q1⟩ : ∃ xo xc, v1 = .tuple #[.slice xo f.length xc, .int .i64 0] ∧ IntsAt w1.heap.size w1 xo f := hd.1
                                go_simp
                                exact hK _ _ (Below.refl _ _) ⟨bo, bc, rfl, q1⟩
                              refine wpFacts_norm (by simp only [Act.put, List.setIfInBounds_toArray, List.set_cons_zero, List.set_cons_succ]; rfl) (by simp only [List.cons_append, List.nil_append]; rfl) ?_
                              refine wpFacts_fact (by rfl) (fun w1 hL hd K hK => ?_) (fun v3 => ?_)
                              · obtain ⟨bo, bc, rfl, q1⟩ : ∃ xo xc, v2 = .tuple #[.slice xo f.length xc, .int .i64 0] ∧ IntsAt w1.heap.size w1 xo f := hd.1
                                go_simp
                                exact hK _ _ (Below.refl _ _) ⟨bo, bc, rfl, q1⟩
                              refine wpFacts_norm (by simp only [Act.put, List.setIfInBounds_toArray, List.set_cons_zero, List.set_cons_succ]; rfl) (by simp only [List.cons_append, List.nil_append]; rfl) ?_
                              refine wpFacts_val (by rfl) (fun w1 hL hd K hK => ?_) ?_
                              · obtain ⟨bo, bc, rfl, q1⟩ : ∃ xo xc, v2 = .tuple #[.slice xo f.length xc, .int .i64 0] ∧ IntsAt w1.heap.size w1 xo f := hd.1
                                go_simp
                                exact hK _ (Below.refl _ _)
                              refine wpFacts_norm (by simp only [Act.put, List.setIfInBounds_toArray, List.set_cons_zero, List.set_cons_succ]; rfl) (by simp only [List.cons_append, List.nil_append]; rfl) ?_
                              refine wpFacts_fact (by rfl) (fun w1 hL hd K hK => ?_) (fun v4 => ?_)
                              · obtain ⟨bo, bc, rfl, q1⟩ : ∃ xo xc, v3 = .slice xo f.length xc ∧ IntsAt w1.heap.size w1 xo f := hd.1
                                go_simp
                                exact hK _ _ (Below.refl _ _) ⟨bo, bc, rfl, q1⟩
                              refine wpFacts_norm (by simp only [Act.put, List.setIfInBounds_toArray, List.set_cons_zero, List.set_cons_succ]; rfl) (by simp only [List.cons_append, List.nil_append]; rfl) ?_
                              refine wpFacts_val (by rfl) (fun w1 hL hd K hK => ?_) ?_
                              · go_simp
                                exact hK _ (Lat.refl _)
                              refine wpFacts_norm (by simp only [Act.put, List.setIfInBounds_toArray, List.set_cons_zero, List.set_cons_succ]; rfl) (by simp only [List.cons_append, List.nil_append]; rfl) ?_
                              intro wq hLq haq
                              obtain ⟨po, pc, rfl, PI0⟩ : ∃ xo xc, v4 = .slice xo f.length xc ∧ IntsAt wq.heap.size wq xo f := allHold_get 10 haq rfl rfl
                              have PI1 : Hid (IntsAt wq.heap.size wq po f) := PI0
                              have hBq : Hid (Below w5.heap.size w5 wq) := hB.out.trans (Below.mono hLq.of_drew hz5)
                              have hRq : Hid (wq.heap[R]? = some (.cells #[.int .i64 (l : Int), .slice (some ⟨xb, xof, none⟩) rs.length yc] 43 (0, 0))) := (hLq.of_drew.block _ (Array.getElem?_eq_some_iff.1 hRb.out).1).trans hRb.out
                              clear haq hLq PI0 HC HO1 hB hRb HBw hgb hz5 hW
                              obtain ⟨HBw, hgb, hz5⟩ := HBB.out wq hBq.out
                              have HBQ : Hid (Below w.heap.size w wq) := HBw
                              obtain ⟨rl, cl, sc0, sI0, _⟩ := SC.out wq hBq.out lm hlN
                              have hsl4 : ((Fo.setsG g).getD lm []).length ≤ 4000 := Nat.le_trans (SROW.out lm hlN).1 (by omega)
                              have sI1 : Hid (IntsAt wq.heap.size wq rl ((Fo.setsG g).getD lm [])) := sI0
                              clear sI0
                              generalize (Fo.setsG g).getD lm [] = sl at *
                              have HD : Hid (∀ w1 : World, Lat wq.drew w1 → (w1.cell? ⟨w.heap.size, 0, none⟩ = some (.slice ta g.terms.length tc) ∧ w1.cell? ⟨w.heap.size, 1, none⟩ = some (.slice na g.names.length nc) ∧ w1.cell? ⟨w.heap.size, 2, none⟩ = some (.slice (some ⟨rb, ro, none⟩) g.rules.length rc)) ∧ w1.cell? ⟨R, 0, none⟩ = some (.int .i64 (l : Int)) ∧ w1.cell? ⟨R, 1, none⟩ = some (.slice (some ⟨xb, xof, none⟩) rs.length yc) ∧ w1.cell? ⟨sb, sof + lm, none⟩ = some (.slice rl sl.length cl)) := fun w1 hL => by
                                obtain ⟨g0, g1, g2, _⟩ := cells_three_z hgb
                                obtain ⟨r0, r1, _⟩ := cells_two_z hRq.out
                                exact ⟨⟨cell_later hL.of_drew g0, cell_later hL.of_drew g1, cell_later hL.of_drew g2⟩, cell_later hL.of_drew r0, cell_later hL.of_drew r1, cell_later hL.of_drew sc0⟩
                              have HHF : Hid (∀ w1 : World, Lat wq.drew w1 → Calls Tryz.prog 17 #[.slice po f.length pc, .int .i64 v] w1 fun e w' => e = .returned (.bool h1) ∧ Below w1.heap.size w1 w') := fun w1 hL => (has_any h1 f v po pc w1 (IntsAt.size (PI1.out.later hL.of_drew)) (by omega) HH1.out).mono fun e w' ⟨a, c⟩ => ⟨a, by subst c; exact Below.refl _ _⟩
                              have HHS : Hid (∀ w1 : World, Lat wq.drew w1 → Calls Tryz.prog 17 #[.slice rl sl.length cl, .int .i64 v] w1 fun e w' => e = .returned (.bool h2) ∧ Below w1.heap.size w1 w') := fun w1 hL => (has_any h2 sl v rl cl w1 (IntsAt.size (sI1.out.later hL.of_drew)) hsl4 HH2.out).mono fun e w' ⟨a, c⟩ => ⟨a, by subst c; exact Below.refl _ _⟩
                              have HCA : Hid (∀ w1 : World, Lat wq.drew w1 → Calls Tryz.prog 19 #[.agg #[.slice ta g.terms.length tc, .slice na g.names.length nc, .slice (some ⟨rb, ro, none⟩) g.rules.length rc], .slice so2 row.length (yc - (k + 1))] w1 fun e w' => e = .returned (.bool al) ∧ Below w1.heap.size w1 w') := fun w1 hL => by
                                have hb1 := HBQ.out.trans (Below.mono hL.of_drew HBQ.out.size)
                                exact HAL.out w1 row so2 _ al hb1 ((ROW.out w1 (KI.out.later hb1)).size) HRW.out.1 HA1.out
                              clear HBw hgb sc0 sI1 PI1 HH1 HH2 HA1 FE HBQ hsl4
                              go_upto_region 28 with fail
                              cases y
                              · cases h1
                                · cases al
                                  · as_aux_lemma =>
                                      refine wp_region_lat [.val (.bool false), .val (.bool false), .val (.slice po f.length pc), .val (.int .i64 v), .val (.bool false), .val (.bool false), .val (.bool false), .val (.agg #[.slice ta g.terms.length tc, .slice na g.names.length nc, .slice (some ⟨rb, ro, none⟩) g.rules.length rc]), .val (.pointer (some ⟨R, 1, none⟩)), .val (.slice (some ⟨xb, xof, none⟩) rs.length yc), .val (.int .i64 k), .val (.int .i64 ((k : Int) + 1)), .val (.slice so2 row.length (yc - (k + 1))), .val (.bool false), .val (.bool false), .val undef, .val undef, .val undef, .val undef, .val undef, .val undef, .val undef, .val undef, .val undef, .val (.bool false), .val (.bool false), .val (.bool false)] [] (by kernel_rfl) (by kernel_rfl) rfl ?kept28C ?walk28C
                                      case kept28C => exact trivial
                                      case walk28C =>
                                        refine wpFacts_val (by rfl) (fun w1 hL hd K hK => ?_) ?_
                                        · go_simp
                                          exact hK _ (Lat.refl _)
                                        refine wpFacts_norm (by simp only [Act.put, List.setIfInBounds_toArray, List.set_cons_zero, List.set_cons_succ]; rfl) (by simp only [List.nil_append]; rfl) ?_
                                        refine wpFacts_val (by rfl) (fun w1 hL hd K hK => ?_) ?_
                                        · go_simp
                                          exact hK _ (Lat.refl _)
                                        refine wpFacts_norm (by simp only [Act.put, List.setIfInBounds_toArray, List.set_cons_zero, List.set_cons_succ]; rfl) (by simp only [List.cons_append, List.nil_append]; rfl) ?_
                                        refine wpFacts_val (by rfl) (fun w1 hL hd K hK => ?_) ?_
                                        · go_simp
                                          exact hK _ (Lat.refl _)
                                        refine wpFacts_norm (by simp only [Act.put, List.setIfInBounds_toArray, List.set_cons_zero, List.set_cons_succ]; rfl) (by simp only [List.cons_append, List.nil_append]; rfl) ?_
                                        refine wpFacts_val (by rfl) (fun w1 hL hd K hK => ?_) ?_
                                        · go_simp
                                          exact hK _ (Lat.refl _)
                                        refine wpFacts_norm (by simp only [Act.put, List.setIfInBounds_toArray, List.set_cons_zero, List.set_cons_succ]; rfl) (by simp only [List.cons_append, List.nil_append]; rfl) ?_
                                        refine wpFacts_val (by rfl) (fun w1 hL hd K hK => ?_) ?_
                                        · go_simp
                                          refine Calls.mono (HHF.out w1 hL) ?_
                                          rintro e w9 ⟨rfl, hb9⟩
                                          exact hK _ hb9
                                        refine wpFacts_norm (by simp only [Act.put, List.setIfInBounds_toArray, List.set_cons_zero, List.set_cons_succ]; rfl) (by simp only [List.cons_append, List.nil_append]; rfl) ?_
                                        refine wpFacts_val (by rfl) (fun w1 hL hd K hK => ?_) ?_
                                        · go_simp
                                          exact hK _ (Lat.refl _)
                                        refine wpFacts_norm (by simp only [Act.put, List.setIfInBounds_toArray, List.set_cons_zero, List.set_cons_succ]; rfl) (by simp only [List.cons_append, List.nil_append]; rfl) ?_
                                        refine wpFacts_val (by rfl) (fun w1 hL hd K hK => ?_) ?_
                                        · go_simp
                                          exact hK _ (Lat.refl _)
                                        refine wpFacts_norm (by simp only [Act.put, List.setIfInBounds_toArray, List.set_cons_zero, List.set_cons_succ]; rfl) (by simp only [List.cons_append, List.nil_append]; rfl) ?_
                                        refine wpFacts_val (by rfl) (fun w1 hL hd K hK => ?_) ?_
                                        · obtain ⟨⟨d0, d1, d2⟩, d3, d4, d5⟩ := HD.out w1 hL
                                          go_simp
                                          exact hK _ (Lat.refl _)
                                        refine wpFacts_norm (by simp only [Act.put, List.setIfInBounds_toArray, List.set_cons_zero, List.set_cons_succ]; rfl) (by simp only [List.cons_append, List.nil_append]; rfl) ?_
                                        refine wpFacts_val (by rfl) (fun w1 hL hd K hK => ?_) ?_
                                        · go_simp
                                          exact hK _ (Lat.refl _)
                                        refine wpFacts_norm (by simp only [Act.put, List.setIfInBounds_toArray, List.set_cons_zero, List.set_cons_succ]; rfl) (by simp only [List.cons_append, List.nil_append]; rfl) ?_
                                        refine wpFacts_val (by rfl) (fun w1 hL hd K hK => ?_) ?_
                                        · obtain ⟨⟨d0, d1, d2⟩, d3, d4, d5⟩ := HD.out w1 hL
                                          go_simp
                                          exact hK _ (Lat.refl _)
                                        refine wpFacts_norm (by simp only [Act.put, List.setIfInBounds_toArray, List.set_cons_zero, List.set_cons_succ]; rfl) (by simp only [List.cons_append, List.nil_append]; rfl) ?_
                                        refine wpFacts_val (by rfl) (fun w1 hL hd K hK => ?_) ?_
                                        · go_simp
                                          exact hK _ (Lat.refl _)
                                        refine wpFacts_norm (by simp only [Act.put, List.setIfInBounds_toArray, List.set_cons_zero, List.set_cons_succ]; rfl) (by simp only [List.cons_append, List.nil_append]; rfl) ?_
                                        refine wpFacts_val (by rfl) (fun w1 hL hd K hK => ?_) ?_
                                        · go_simp
                                          exact hK _ (Lat.refl _)
                                        refine wpFacts_norm (by simp only [Act.put, List.setIfInBounds_toArray, List.set_cons_zero, List.set_cons_succ]; rfl) (by simp only [List.cons_append, List.nil_append]; rfl) ?_
                                        refine wpFacts_val (by rfl) (fun w1 hL hd K hK => ?_) ?_
                                        · go_simp
                                          exact hK _ (Lat.refl _)
                                        refine wpFacts_norm (by simp only [Act.put, List.setIfInBounds_toArray, List.set_cons_zero, List.set_cons_succ]; rfl) (by simp only [List.cons_append, List.nil_append]; rfl) ?_
                                        refine wpFacts_val (by rfl) (fun w1 hL hd K hK => ?_) ?_
                                        · go_simp
                                          refine Calls.mono (HCA.out w1 hL) ?_
                                          rintro e w9 ⟨rfl, hb9⟩
                                          exact hK _ hb9
                                        refine wpFacts_norm (by simp only [Act.put, List.setIfInBounds_toArray, List.set_cons_zero, List.set_cons_succ]; rfl) (by simp only [List.cons_append, List.nil_append]; rfl) ?_
                                        refine wpFacts_val (by rfl) (fun w1 hL hd K hK => ?_) ?_
                                        · go_simp
                                          exact hK _ (Lat.refl _)
                                        refine wpFacts_norm (by simp only [Act.put, List.setIfInBounds_toArray, List.set_cons_zero, List.set_cons_succ]; rfl) (by simp only [List.cons_append, List.nil_append]; rfl) ?_
                                        refine wpFacts_skip10 (by rfl) ?_
                                        refine wpFacts_norm (by simp only [Act.put, List.setIfInBounds_toArray, List.set_cons_zero, List.set_cons_succ]; rfl) (by simp only [List.cons_append, List.nil_append]; rfl) ?_
                                        refine wpFacts_skip10 (by rfl) ?_
                                        refine wpFacts_norm (by simp only [Act.put, List.setIfInBounds_toArray, List.set_cons_zero, List.set_cons_succ]; rfl) (by simp only [List.cons_append, List.nil_append]; rfl) ?_
                                        refine wpFacts_skip10 (by rfl) ?_
                                        refine wpFacts_norm (by simp only [Act.put, List.setIfInBounds_toArray, List.set_cons_zero, List.set_cons_succ]; rfl) (by simp only [List.cons_append, List.nil_append]; rfl) ?_
                                        refine wpFacts_skip10 (by rfl) ?_
                                        refine wpFacts_norm (by simp only [Act.put, List.setIfInBounds_toArray, List.set_cons_zero, List.set_cons_succ]; rfl) (by simp only [List.cons_append, List.nil_append]; rfl) ?_
                                        refine wpFacts_skip10 (by rfl) ?_
                                        refine wpFacts_norm (by simp only [Act.put, List.setIfInBounds_toArray, List.set_cons_zero, List.set_cons_succ]; rfl) (by simp only [List.cons_append, List.nil_append]; rfl) ?_
                                        refine wpFacts_skip10 (by rfl) ?_
                                        refine wpFacts_norm (by simp only [Act.put, List.setIfInBounds_toArray, List.set_cons_zero, List.set_cons_succ]; rfl) (by simp only [List.cons_append, List.nil_append]; rfl) ?_
                                        refine wpFacts_skip10 (by rfl) ?_
                                        refine wpFacts_norm (by simp only [Act.put, List.setIfInBounds_toArray, List.set_cons_zero, List.set_cons_succ]; rfl) (by simp only [List.cons_append, List.nil_append]; rfl) ?_
                                        refine wpFacts_skip10 (by rfl) ?_
                                        refine wpFacts_norm (by simp only [Act.put, List.setIfInBounds_toArray, List.set_cons_zero, List.set_cons_succ]; rfl) (by simp only [List.cons_append, List.nil_append]; rfl) ?_
                                        refine wpFacts_skip10 (by rfl) ?_
                                        refine wpFacts_norm (by simp only [Act.put, List.setIfInBounds_toArray, List.set_cons_zero, List.set_cons_succ]; rfl) (by simp only [List.cons_append, List.nil_append]; rfl) ?_
                                        refine wpFacts_val (by rfl) (fun w1 hL hd K hK => ?_) ?_
                                        · go_simp
                                          exact hK _ (Lat.refl _)
                                        refine wpFacts_norm (by simp only [Act.put, List.setIfInBounds_toArray, List.set_cons_zero, List.set_cons_succ]; rfl) (by simp only [List.cons_append, List.nil_append]; rfl) ?_
                                        refine wpFacts_val (by rfl) (fun w1 hL hd K hK => ?_) ?_
                                        · go_simp
                                          exact hK _ (Lat.refl _)
                                        refine wpFacts_norm (by simp only [Act.put, List.setIfInBounds_toArray, List.set_cons_zero, List.set_cons_succ]; rfl) (by simp only [List.cons_append, List.nil_append]; rfl) ?_
                                        refine wpFacts_val (by rfl) (fun w1 hL hd K hK => ?_) ?_
                                        · go_simp
                                          exact hK _ (Lat.refl _)
                                        refine wpFacts_norm (by simp only [Act.put, List.setIfInBounds_toArray, List.set_cons_zero, List.set_cons_succ]; rfl) (by simp only [List.cons_append, List.nil_append]; rfl) ?_
                                        intro wz hLz haz
                                        have hBz : Hid (Below w5.heap.size w5 wz) := hBq.out.trans (Below.mono hLz.of_drew hz5)
                                        have hRz : Hid (wz.heap[R]? = some (.cells #[.int .i64 (l : Int), .slice (some ⟨xb, xof, none⟩) rs.length yc] 43 (0, 0))) := (hLz.of_drew.block _ (Array.getElem?_eq_some_iff.1 hRq.out).1).trans hRq.out
                                        have N1 : Hid _ := NS.out false (fun e => by cases e) (fun e => by rcases e with e | ⟨e, _⟩ <;> cases e)
                                        clear haz hLz hBq hRq HD HHF HHS HCA NS
                                        go_wp2_with fail
                                        go_roundw
                                        case rel => exact ⟨false, k + 1, by omega, rfl, by go_num, hBz, hRz, N1⟩
                                        case measure => simp [intOf]; omega
                                  · as_aux_lemma =>
                                      refine wp_region_lat [.val (.bool false), .val (.bool false), .val (.slice po f.length pc), .val (.int .i64 v), .val (.bool false), .val (.bool false), .val (.bool false), .val (.agg #[.slice ta g.terms.length tc, .slice na g.names.length nc, .slice (some ⟨rb, ro, none⟩) g.rules.length rc]), .val (.pointer (some ⟨R, 1, none⟩)), .val (.slice (some ⟨xb, xof, none⟩) rs.length yc), .val (.int .i64 k), .val (.int .i64 ((k : Int) + 1)), .val (.slice so2 row.length (yc - (k + 1))), .val (.bool true), .val (.bool true), .val (.slice (some ⟨sb, sof, none⟩) g.names.length sc), .val (.pointer (some ⟨R, 0, none⟩)), .val (.int .i64 (l : Int)), .val (.int .i64 g.terms.length), .val (.int .i64 (lm : Int)), .val (.pointer (some ⟨sb, sof + lm, none⟩)), .val (.slice rl sl.length cl), .val (.int .i64 v), .val (.bool h2), .val (.bool h2), .val (.bool h2), .val (.bool h2)] [] (by kernel_rfl) (by kernel_rfl) rfl ?kept28D ?walk28D
                                      case kept28D => exact trivial
                                      case walk28D =>
                                        refine wpFacts_val (by rfl) (fun w1 hL hd K hK => ?_) ?_
                                        · go_simp
                                          exact hK _ (Lat.refl _)
                                        refine wpFacts_norm (by simp only [Act.put, List.setIfInBounds_toArray, List.set_cons_zero, List.set_cons_succ]; rfl) (by simp only [List.nil_append]; rfl) ?_
                                        refine wpFacts_val (by rfl) (fun w1 hL hd K hK => ?_) ?_
                                        · go_simp
                                          exact hK _ (Lat.refl _)
                                        refine wpFacts_norm (by simp only [Act.put, List.setIfInBounds_toArray, List.set_cons_zero, List.set_cons_succ]; rfl) (by simp only [List.cons_append, List.nil_append]; rfl) ?_
                                        refine wpFacts_val (by rfl) (fun w1 hL hd K hK => ?_) ?_
                                        · go_simp
                                          exact hK _ (Lat.refl _)
                                        refine wpFacts_norm (by simp only [Act.put, List.setIfInBounds_toArray, List.set_cons_zero, List.set_cons_succ]; rfl) (by simp only [List.cons_append, List.nil_append]; rfl) ?_
                                        refine wpFacts_val (by rfl) (fun w1 hL hd K hK => ?_) ?_
                                        · go_simp
                                          exact hK _ (Lat.refl _)
                                        refine wpFacts_norm (by simp only [Act.put, List.setIfInBounds_toArray, List.set_cons_zero, List.set_cons_succ]; rfl) (by simp only [List.cons_append, List.nil_append]; rfl) ?_
                                        refine wpFacts_val (by rfl) (fun w1 hL hd K hK => ?_) ?_
                                        · go_simp
                                          refine Calls.mono (HHF.out w1 hL) ?_
                                          rintro e w9 ⟨rfl, hb9⟩
                                          exact hK _ hb9
                                        refine wpFacts_norm (by simp only [Act.put, List.setIfInBounds_toArray, List.set_cons_zero, List.set_cons_succ]; rfl) (by simp only [List.cons_append, List.nil_append]; rfl) ?_
                                        refine wpFacts_val (by rfl) (fun w1 hL hd K hK => ?_) ?_
                                        · go_simp
                                          exact hK _ (Lat.refl _)
                                        refine wpFacts_norm (by simp only [Act.put, List.setIfInBounds_toArray, List.set_cons_zero, List.set_cons_succ]; rfl) (by simp only [List.cons_append, List.nil_append]; rfl) ?_
                                        refine wpFacts_val (by rfl) (fun w1 hL hd K hK => ?_) ?_
                                        · go_simp
                                          exact hK _ (Lat.refl _)
                                        refine wpFacts_norm (by simp only [Act.put, List.setIfInBounds_toArray, List.set_cons_zero, List.set_cons_succ]; rfl) (by simp only [List.cons_append, List.nil_append]; rfl) ?_
                                        refine wpFacts_val (by rfl) (fun w1 hL hd K hK => ?_) ?_
                                        · obtain ⟨⟨d0, d1, d2⟩, d3, d4, d5⟩ := HD.out w1 hL
                                          go_simp
                                          exact hK _ (Lat.refl _)
                                        refine wpFacts_norm (by simp only [Act.put, List.setIfInBounds_toArray, List.set_cons_zero, List.set_cons_succ]; rfl) (by simp only [List.cons_append, List.nil_append]; rfl) ?_
                                        refine wpFacts_val (by rfl) (fun w1 hL hd K hK => ?_) ?_
                                        · go_simp
                                          exact hK _ (Lat.refl _)
                                        refine wpFacts_norm (by simp only [Act.put, List.setIfInBounds_toArray, List.set_cons_zero, List.set_cons_succ]; rfl) (by simp only [List.cons_append, List.nil_append]; rfl) ?_
                                        refine wpFacts_val (by rfl) (fun w1 hL hd K hK => ?_) ?_
                                        · obtain ⟨⟨d0, d1, d2⟩, d3, d4, d5⟩ := HD.out w1 hL
                                          go_simp
                                          exact hK _ (Lat.refl _)
                                        refine wpFacts_norm (by simp only [Act.put, List.setIfInBounds_toArray, List.set_cons_zero, List.set_cons_succ]; rfl) (by simp only [List.cons_append, List.nil_append]; rfl) ?_
                                        refine wpFacts_val (by rfl) (fun w1 hL hd K hK => ?_) ?_
                                        · go_simp
                                          exact hK _ (Lat.refl _)
                                        refine wpFacts_norm (by simp only [Act.put, List.setIfInBounds_toArray, List.set_cons_zero, List.set_cons_succ]; rfl) (by simp only [List.cons_append, List.nil_append]; rfl) ?_
                                        refine wpFacts_val (by rfl) (fun w1 hL hd K hK => ?_) ?_
                                        · go_simp
                                          exact hK _ (Lat.refl _)
                                        refine wpFacts_norm (by simp only [Act.put, List.setIfInBounds_toArray, List.set_cons_zero, List.set_cons_succ]; rfl) (by simp only [List.cons_append, List.nil_append]; rfl) ?_
                                        refine wpFacts_val (by rfl) (fun w1 hL hd K hK => ?_) ?_
                                        · go_simp
                                          exact hK _ (Lat.refl _)
                                        refine wpFacts_norm (by simp only [Act.put, List.setIfInBounds_toArray, List.set_cons_zero, List.set_cons_succ]; rfl) (by simp only [List.cons_append, List.nil_append]; rfl) ?_
                                        refine wpFacts_val (by rfl) (fun w1 hL hd K hK => ?_) ?_
                                        · go_simp
                                          refine Calls.mono (HCA.out w1 hL) ?_
                                          rintro e w9 ⟨rfl, hb9⟩
                                          exact hK _ hb9
                                        refine wpFacts_norm (by simp only [Act.put, List.setIfInBounds_toArray, List.set_cons_zero, List.set_cons_succ]; rfl) (by simp only [List.cons_append, List.nil_append]; rfl) ?_
                                        refine wpFacts_val (by rfl) (fun w1 hL hd K hK => ?_) ?_
                                        · go_simp
                                          exact hK _ (Lat.refl _)
                                        refine wpFacts_norm (by simp only [Act.put, List.setIfInBounds_toArray, List.set_cons_zero, List.set_cons_succ]; rfl) (by simp only [List.cons_append, List.nil_append]; rfl) ?_
                                        refine wpFacts_val (by rfl) (fun w1 hL hd K hK => ?_) ?_
                                        · go_simp
                                          exact hK _ (Lat.refl _)
                                        refine wpFacts_norm (by simp only [Act.put, List.setIfInBounds_toArray, List.set_cons_zero, List.set_cons_succ]; rfl) (by simp only [List.cons_append, List.nil_append]; rfl) ?_
                                        refine wpFacts_val (by rfl) (fun w1 hL hd K hK => ?_) ?_
                                        · go_simp
                                          exact hK _ (Lat.refl _)
                                        refine wpFacts_norm (by simp only [Act.put, List.setIfInBounds_toArray, List.set_cons_zero, List.set_cons_succ]; rfl) (by simp only [List.cons_append, List.nil_append]; rfl) ?_
                                        refine wpFacts_val (by rfl) (fun w1 hL hd K hK => ?_) ?_
                                        · obtain ⟨⟨d0, d1, d2⟩, d3, d4, d5⟩ := HD.out w1 hL
                                          go_simp
                                          exact hK _ (Lat.refl _)
                                        refine wpFacts_norm (by simp only [Act.put, List.setIfInBounds_toArray, List.set_cons_zero, List.set_cons_succ]; rfl) (by simp only [List.cons_append, List.nil_append]; rfl) ?_
                                        refine wpFacts_val (by rfl) (fun w1 hL hd K hK => ?_) ?_
                                        · go_simp
                                          exact hK _ (Lat.refl _)
                                        refine wpFacts_norm (by simp only [Act.put, List.setIfInBounds_toArray, List.set_cons_zero, List.set_cons_succ]; rfl) (by simp only [List.cons_append, List.nil_append]; rfl) ?_
                                        refine wpFacts_val (by rfl) (fun w1 hL hd K hK => ?_) ?_
                                        · go_simp
                                          exact hK _ (Lat.refl _)
                                        refine wpFacts_norm (by simp only [Act.put, List.setIfInBounds_toArray, List.set_cons_zero, List.set_cons_succ]; rfl) (by simp only [List.cons_append, List.nil_append]; rfl) ?_
                                        refine wpFacts_val (by rfl) (fun w1 hL hd K hK => ?_) ?_
                                        · go_simp
                                          exact hK _ (Lat.refl _)
                                        refine wpFacts_norm (by simp only [Act.put, List.setIfInBounds_toArray, List.set_cons_zero, List.set_cons_succ]; rfl) (by simp only [List.cons_append, List.nil_append]; rfl) ?_
                                        refine wpFacts_val (by rfl) (fun w1 hL hd K hK => ?_) ?_
                                        · obtain ⟨⟨d0, d1, d2⟩, d3, d4, d5⟩ := HD.out w1 hL
                                          go_simp
                                          exact hK _ (Lat.refl _)
                                        refine wpFacts_norm (by simp only [Act.put, List.setIfInBounds_toArray, List.set_cons_zero, List.set_cons_succ]; rfl) (by simp only [List.cons_append, List.nil_append]; rfl) ?_
                                        refine wpFacts_val (by rfl) (fun w1 hL hd K hK => ?_) ?_
                                        · go_simp
                                          exact hK _ (Lat.refl _)
                                        refine wpFacts_norm (by simp only [Act.put, List.setIfInBounds_toArray, List.set_cons_zero, List.set_cons_succ]; rfl) (by simp only [List.cons_append, List.nil_append]; rfl) ?_
                                        refine wpFacts_val (by rfl) (fun w1 hL hd K hK => ?_) ?_
                                        · go_simp
                                          refine Calls.mono (HHS.out w1 hL) ?_
                                          rintro e w9 ⟨rfl, hb9⟩
                                          exact hK _ hb9
                                        refine wpFacts_norm (by simp only [Act.put, List.setIfInBounds_toArray, List.set_cons_zero, List.set_cons_succ]; rfl) (by simp only [List.cons_append, List.nil_append]; rfl) ?_
                                        refine wpFacts_val (by rfl) (fun w1 hL hd K hK => ?_) ?_
                                        · go_simp
                                          exact hK _ (Lat.refl _)
                                        refine wpFacts_norm (by simp only [Act.put, List.setIfInBounds_toArray, List.set_cons_zero, List.set_cons_succ]; rfl) (by simp only [List.cons_append, List.nil_append]; rfl) ?_
                                        refine wpFacts_val (by rfl) (fun w1 hL hd K hK => ?_) ?_
                                        · go_simp
                                          exact hK _ (Lat.refl _)
                                        refine wpFacts_norm (by simp only [Act.put, List.setIfInBounds_toArray, List.set_cons_zero, List.set_cons_succ]; rfl) (by simp only [List.cons_append, List.nil_append]; rfl) ?_
                                        refine wpFacts_val (by rfl) (fun w1 hL hd K hK => ?_) ?_
                                        · go_simp
                                          exact hK _ (Lat.refl _)
                                        refine wpFacts_norm (by simp only [Act.put, List.setIfInBounds_toArray, List.set_cons_zero, List.set_cons_succ]; rfl) (by simp only [List.cons_append, List.nil_append]; rfl) ?_
                                        intro wz hLz haz
                                        have hBz : Hid (Below w5.heap.size w5 wz) := hBq.out.trans (Below.mono hLz.of_drew hz5)
                                        have hRz : Hid (wz.heap[R]? = some (.cells #[.int .i64 (l : Int), .slice (some ⟨xb, xof, none⟩) rs.length yc] 43 (0, 0))) := (hLz.of_drew.block _ (Array.getElem?_eq_some_iff.1 hRq.out).1).trans hRq.out
                                        have N1 : Hid _ := NS.out h2 (fun e => by cases e) (fun e => by rcases e with e | ⟨_, e⟩; (· cases e); exact e)
                                        clear haz hLz hBq hRq HD HHF HHS HCA NS
                                        go_wp2_with fail
                                        go_roundw
                                        case rel => exact ⟨h2, k + 1, by omega, rfl, by go_num, hBz, hRz, N1⟩
                                        case measure => simp [intOf]; omega
                                · as_aux_lemma =>
                                    refine wp_region_lat [.val (.bool false), .val (.bool false), .val (.slice po f.length pc), .val (.int .i64 v), .val (.bool true), .val (.bool true), .val (.bool true), .val undef, .val undef, .val undef, .val undef, .val undef, .val undef, .val undef, .val undef, .val undef, .val undef, .val undef, .val undef, .val undef, .val undef, .val undef, .val undef, .val undef, .val undef, .val (.bool true), .val (.bool true)] [] (by kernel_rfl) (by kernel_rfl) rfl ?kept28B ?walk28B
                                    case kept28B => exact trivial
                                    case walk28B =>
                                      refine wpFacts_val (by rfl) (fun w1 hL hd K hK => ?_) ?_
                                      · go_simp
                                        exact hK _ (Lat.refl _)
                                      refine wpFacts_norm (by simp only [Act.put, List.setIfInBounds_toArray, List.set_cons_zero, List.set_cons_succ]; rfl) (by simp only [List.nil_append]; rfl) ?_
                                      refine wpFacts_val (by rfl) (fun w1 hL hd K hK => ?_) ?_
                                      · go_simp
                                        exact hK _ (Lat.refl _)
                                      refine wpFacts_norm (by simp only [Act.put, List.setIfInBounds_toArray, List.set_cons_zero, List.set_cons_succ]; rfl) (by simp only [List.cons_append, List.nil_append]; rfl) ?_
                                      refine wpFacts_val (by rfl) (fun w1 hL hd K hK => ?_) ?_
                                      · go_simp
                                        exact hK _ (Lat.refl _)
                                      refine wpFacts_norm (by simp only [Act.put, List.setIfInBounds_toArray, List.set_cons_zero, List.set_cons_succ]; rfl) (by simp only [List.cons_append, List.nil_append]; rfl) ?_
                                      refine wpFacts_val (by rfl) (fun w1 hL hd K hK => ?_) ?_
                                      · go_simp
                                        exact hK _ (Lat.refl _)
                                      refine wpFacts_norm (by simp only [Act.put, List.setIfInBounds_toArray, List.set_cons_zero, List.set_cons_succ]; rfl) (by simp only [List.cons_append, List.nil_append]; rfl) ?_
                                      refine wpFacts_val (by rfl) (fun w1 hL hd K hK => ?_) ?_
                                      · go_simp
                                        refine Calls.mono (HHF.out w1 hL) ?_
                                        rintro e w9 ⟨rfl, hb9⟩
                                        exact hK _ hb9
                                      refine wpFacts_norm (by simp only [Act.put, List.setIfInBounds_toArray, List.set_cons_zero, List.set_cons_succ]; rfl) (by simp only [List.cons_append, List.nil_append]; rfl) ?_
                                      refine wpFacts_val (by rfl) (fun w1 hL hd K hK => ?_) ?_
                                      · go_simp
                                        exact hK _ (Lat.refl _)
                                      refine wpFacts_norm (by simp only [Act.put, List.setIfInBounds_toArray, List.set_cons_zero, List.set_cons_succ]; rfl) (by simp only [List.cons_append, List.nil_append]; rfl) ?_
                                      refine wpFacts_val (by rfl) (fun w1 hL hd K hK => ?_) ?_
                                      · go_simp
                                        exact hK _ (Lat.refl _)
                                      refine wpFacts_norm (by simp only [Act.put, List.setIfInBounds_toArray, List.set_cons_zero, List.set_cons_succ]; rfl) (by simp only [List.cons_append, List.nil_append]; rfl) ?_
                                      refine wpFacts_skip10 (by rfl) ?_
                                      refine wpFacts_norm (by simp only [Act.put, List.setIfInBounds_toArray, List.set_cons_zero, List.set_cons_succ]; rfl) (by simp only [List.cons_append, List.nil_append]; rfl) ?_
                                      refine wpFacts_skip10 (by rfl) ?_
                                      refine wpFacts_norm (by simp only [Act.put, List.setIfInBounds_toArray, List.set_cons_zero, List.set_cons_succ]; rfl) (by simp only [List.cons_append, List.nil_append]; rfl) ?_
                                      refine wpFacts_skip10 (by rfl) ?_
                                      refine wpFacts_norm (by simp only [Act.put, List.setIfInBounds_toArray, List.set_cons_zero, List.set_cons_succ]; rfl) (by simp only [List.cons_append, List.nil_append]; rfl) ?_
                                      refine wpFacts_skip10 (by rfl) ?_
                                      refine wpFacts_norm (by simp only [Act.put, List.setIfInBounds_toArray, List.set_cons_zero, List.set_cons_succ]; rfl) (by simp only [List.cons_append, List.nil_append]; rfl) ?_
                                      refine wpFacts_skip10 (by rfl) ?_
                                      refine wpFacts_norm (by simp only [Act.put, List.setIfInBounds_toArray, List.set_cons_zero, List.set_cons_succ]; rfl) (by simp only [List.cons_append, List.nil_append]; rfl) ?_
                                      refine wpFacts_skip10 (by rfl) ?_
                                      refine wpFacts_norm (by simp only [Act.put, List.setIfInBounds_toArray, List.set_cons_zero, List.set_cons_succ]; rfl) (by simp only [List.cons_append, List.nil_append]; rfl) ?_
                                      refine wpFacts_skip10 (by rfl) ?_
                                      refine wpFacts_norm (by simp only [Act.put, List.setIfInBounds_toArray, List.set_cons_zero, List.set_cons_succ]; rfl) (by simp only [List.cons_append, List.nil_append]; rfl) ?_
                                      refine wpFacts_skip10 (by rfl) ?_
                                      refine wpFacts_norm (by simp only [Act.put, List.setIfInBounds_toArray, List.set_cons_zero, List.set_cons_succ]; rfl) (by simp only [List.cons_append, List.nil_append]; rfl) ?_
                                      refine wpFacts_skip10 (by rfl) ?_
                                      refine wpFacts_norm (by simp only [Act.put, List.setIfInBounds_toArray, List.set_cons_zero, List.set_cons_succ]; rfl) (by simp only [List.cons_append, List.nil_append]; rfl) ?_
                                      refine wpFacts_skip10 (by rfl) ?_
                                      refine wpFacts_norm (by simp only [Act.put, List.setIfInBounds_toArray, List.set_cons_zero, List.set_cons_succ]; rfl) (by simp only [List.cons_append, List.nil_append]; rfl) ?_
                                      refine wpFacts_skip10 (by rfl) ?_
                                      refine wpFacts_norm (by simp only [Act.put, List.setIfInBounds_toArray, List.set_cons_zero, List.set_cons_succ]; rfl) (by simp only [List.cons_append, List.nil_append]; rfl) ?_
                                      refine wpFacts_skip10 (by rfl) ?_
                                      refine wpFacts_norm (by simp only [Act.put, List.setIfInBounds_toArray, List.set_cons_zero, List.set_cons_succ]; rfl) (by simp only [List.cons_append, List.nil_append]; rfl) ?_
                                      refine wpFacts_skip10 (by rfl) ?_
                                      refine wpFacts_norm (by simp only [Act.put, List.setIfInBounds_toArray, List.set_cons_zero, List.set_cons_succ]; rfl) (by simp only [List.cons_append, List.nil_append]; rfl) ?_
                                      refine wpFacts_skip10 (by rfl) ?_
                                      refine wpFacts_norm (by simp only [Act.put, List.setIfInBounds_toArray, List.set_cons_zero, List.set_cons_succ]; rfl) (by simp only [List.cons_append, List.nil_append]; rfl) ?_
                                      refine wpFacts_skip10 (by rfl) ?_
                                      refine wpFacts_norm (by simp only [Act.put, List.setIfInBounds_toArray, List.set_cons_zero, List.set_cons_succ]; rfl) (by simp only [List.cons_append, List.nil_append]; rfl) ?_
                                      refine wpFacts_skip10 (by rfl) ?_
                                      refine wpFacts_norm (by simp only [Act.put, List.setIfInBounds_toArray, List.set_cons_zero, List.set_cons_succ]; rfl) (by simp only [List.cons_append, List.nil_append]; rfl) ?_
                                      refine wpFacts_skip10 (by rfl) ?_
                                      refine wpFacts_norm (by simp only [Act.put, List.setIfInBounds_toArray, List.set_cons_zero, List.set_cons_succ]; rfl) (by simp only [List.cons_append, List.nil_append]; rfl) ?_
                                      refine wpFacts_skip10 (by rfl) ?_
                                      refine wpFacts_norm (by simp only [Act.put, List.setIfInBounds_toArray, List.set_cons_zero, List.set_cons_succ]; rfl) (by simp only [List.cons_append, List.nil_append]; rfl) ?_
                                      refine wpFacts_val (by rfl) (fun w1 hL hd K hK => ?_) ?_
                                      · go_simp
                                        exact hK _ (Lat.refl _)
                                      refine wpFacts_norm (by simp only [Act.put, List.setIfInBounds_toArray, List.set_cons_zero, List.set_cons_succ]; rfl) (by simp only [List.cons_append, List.nil_append]; rfl) ?_
                                      refine wpFacts_val (by rfl) (fun w1 hL hd K hK => ?_) ?_
                                      · go_simp
                                        exact hK _ (Lat.refl _)
                                      refine wpFacts_norm (by simp only [Act.put, List.setIfInBounds_toArray, List.set_cons_zero, List.set_cons_succ]; rfl) (by simp only [List.cons_append, List.nil_append]; rfl) ?_
                                      intro wz hLz haz
                                      have hBz : Hid (Below w5.heap.size w5 wz) := hBq.out.trans (Below.mono hLz.of_drew hz5)
                                      have hRz : Hid (wz.heap[R]? = some (.cells #[.int .i64 (l : Int), .slice (some ⟨xb, xof, none⟩) rs.length yc] 43 (0, 0))) := (hLz.of_drew.block _ (Array.getElem?_eq_some_iff.1 hRq.out).1).trans hRq.out
                                      have N1 : Hid _ := NS.out true (fun _ => rfl) (fun _ => rfl)
                                      clear haz hLz hBq hRq HD HHF HHS HCA NS
                                      go_wp2_with fail
                                      go_roundw
                                      case rel => exact ⟨true, k + 1, by omega, rfl, by go_num, hBz, hRz, N1⟩
                                      case measure => simp [intOf]; omega
                              · as_aux_lemma =>
                                  refine wp_region_lat [.val (.bool true), .val (.bool true), .val undef, .val undef, .val undef, .val (.bool true), .val (.bool true), .val undef, .val undef, .val undef, .val undef, .val undef, .val undef, .val undef, .val undef, .val undef, .val undef, .val undef, .val undef, .val undef, .val undef, .val undef, .val undef, .val undef, .val undef, .val (.bool true), .val (.bool true)] [] (by kernel_rfl) (by kernel_rfl) rfl ?kept28A ?walk28A
                                  case kept28A => exact trivial
                                  case walk28A =>
                                    refine wpFacts_val (by rfl) (fun w1 hL hd K hK => ?_) ?_
                                    · go_simp
                                      exact hK _ (Lat.refl _)
                                    refine wpFacts_norm (by simp only [Act.put, List.setIfInBounds_toArray, List.set_cons_zero, List.set_cons_succ]; rfl) (by simp only [List.nil_append]; rfl) ?_
                                    refine wpFacts_val (by rfl) (fun w1 hL hd K hK => ?_) ?_
                                    · go_simp
                                      exact hK _ (Lat.refl _)
                                    refine wpFacts_norm (by simp only [Act.put, List.setIfInBounds_toArray, List.set_cons_zero, List.set_cons_succ]; rfl) (by simp only [List.cons_append, List.nil_append]; rfl) ?_
                                    refine wpFacts_skip10 (by rfl) ?_
                                    refine wpFacts_norm (by simp only [Act.put, List.setIfInBounds_toArray, List.set_cons_zero, List.set_cons_succ]; rfl) (by simp only [List.cons_append, List.nil_append]; rfl) ?_
                                    refine wpFacts_skip10 (by rfl) ?_
                                    refine wpFacts_norm (by simp only [Act.put, List.setIfInBounds_toArray, List.set_cons_zero, List.set_cons_succ]; rfl) (by simp only [List.cons_append, List.nil_append]; rfl) ?_
                                    refine wpFacts_skip10 (by rfl) ?_
                                    refine wpFacts_norm (by simp only [Act.put, List.setIfInBounds_toArray, List.set_cons_zero, List.set_cons_succ]; rfl) (by simp only [List.cons_append, List.nil_append]; rfl) ?_
                                    refine wpFacts_val (by rfl) (fun w1 hL hd K hK => ?_) ?_
                                    · go_simp
                                      exact hK _ (Lat.refl _)
                                    refine wpFacts_norm (by simp only [Act.put, List.setIfInBounds_toArray, List.set_cons_zero, List.set_cons_succ]; rfl) (by simp only [List.cons_append, List.nil_append]; rfl) ?_
                                    refine wpFacts_val (by rfl) (fun w1 hL hd K hK => ?_) ?_
                                    · go_simp
                                      exact hK _ (Lat.refl _)
                                    refine wpFacts_norm (by simp only [Act.put, List.setIfInBounds_toArray, List.set_cons_zero, List.set_cons_succ]; rfl) (by simp only [List.cons_append, List.nil_append]; rfl) ?_
                                    refine wpFacts_skip10 (by rfl) ?_
                                    refine wpFacts_norm (by simp only [Act.put, List.setIfInBounds_toArray, List.set_cons_zero, List.set_cons_succ]; rfl) (by simp only [List.cons_append, List.nil_append]; rfl) ?_
                                    refine wpFacts_skip10 (by rfl) ?_
                                    refine wpFacts_norm (by simp only [Act.put, List.setIfInBounds_toArray, List.set_cons_zero, List.set_cons_succ]; rfl) (by simp only [List.cons_append, List.nil_append]; rfl) ?_
                                    refine wpFacts_skip10 (by rfl) ?_
                                    refine wpFacts_norm (by simp only [Act.put, List.setIfInBounds_toArray, List.set_cons_zero, List.set_cons_succ]; rfl) (by simp only [List.cons_append, List.nil_append]; rfl) ?_
                                    refine wpFacts_skip10 (by rfl) ?_
                                    refine wpFacts_norm (by simp only [Act.put, List.setIfInBounds_toArray, List.set_cons_zero, List.set_cons_succ]; rfl) (by simp only [List.cons_append, List.nil_append]; rfl) ?_
                                    refine wpFacts_skip10 (by rfl) ?_
                                    refine wpFacts_norm (by simp only [Act.put, List.setIfInBounds_toArray, List.set_cons_zero, List.set_cons_succ]; rfl) (by simp only [List.cons_append, List.nil_append]; rfl) ?_
                                    refine wpFacts_skip10 (by rfl) ?_
                                    refine wpFacts_norm (by simp only [Act.put, List.setIfInBounds_toArray, List.set_cons_zero, List.set_cons_succ]; rfl) (by simp only [List.cons_append, List.nil_append]; rfl) ?_
                                    refine wpFacts_skip10 (by rfl) ?_
                                    refine wpFacts_norm (by simp only [Act.put, List.setIfInBounds_toArray, List.set_cons_zero, List.set_cons_succ]; rfl) (by simp only [List.cons_append, List.nil_append]; rfl) ?_
                                    refine wpFacts_skip10 (by rfl) ?_
                                    refine wpFacts_norm (by simp only [Act.put, List.setIfInBounds_toArray, List.set_cons_zero, List.set_cons_succ]; rfl) (by simp only [List.cons_append, List.nil_append]; rfl) ?_
                                    refine wpFacts_skip10 (by rfl) ?_
                                    refine wpFacts_norm (by simp only [Act.put, List.setIfInBounds_toArray, List.set_cons_zero, List.set_cons_succ]; rfl) (by simp only [List.cons_append, List.nil_append]; rfl) ?_
                                    refine wpFacts_skip10 (by rfl) ?_
                                    refine wpFacts_norm (by simp only [Act.put, List.setIfInBounds_toArray, List.set_cons_zero, List.set_cons_succ]; rfl) (by simp only [List.cons_append, List.nil_append]; rfl) ?_
                                    refine wpFacts_skip10 (by rfl) ?_
                                    refine wpFacts_norm (by simp only [Act.put, List.setIfInBounds_toArray, List.set_cons_zero, List.set_cons_succ]; rfl) (by simp only [List.cons_append, List.nil_append]; rfl) ?_
                                    refine wpFacts_skip10 (by rfl) ?_
                                    refine wpFacts_norm (by simp only [Act.put, List.setIfInBounds_toArray, List.set_cons_zero, List.set_cons_succ]; rfl) (by simp only [List.cons_append, List.nil_append]; rfl) ?_
                                    refine wpFacts_skip10 (by rfl) ?_
                                    refine wpFacts_norm (by simp only [Act.put, List.setIfInBounds_toArray, List.set_cons_zero, List.set_cons_succ]; rfl) (by simp only [List.cons_append, List.nil_append]; rfl) ?_
                                    refine wpFacts_skip10 (by rfl) ?_
                                    refine wpFacts_norm (by simp only [Act.put, List.setIfInBounds_toArray, List.set_cons_zero, List.set_cons_succ]; rfl) (by simp only [List.cons_append, List.nil_append]; rfl) ?_
                                    refine wpFacts_skip10 (by rfl) ?_
                                    refine wpFacts_norm (by simp only [Act.put, List.setIfInBounds_toArray, List.set_cons_zero, List.set_cons_succ]; rfl) (by simp only [List.cons_append, List.nil_append]; rfl) ?_
                                    refine wpFacts_skip10 (by rfl) ?_
                                    refine wpFacts_norm (by simp only [Act.put, List.setIfInBounds_toArray, List.set_cons_zero, List.set_cons_succ]; rfl) (by simp only [List.cons_append, List.nil_append]; rfl) ?_
                                    refine wpFacts_skip10 (by rfl) ?_
                                    refine wpFacts_norm (by simp only [Act.put, List.setIfInBounds_toArray, List.set_cons_zero, List.set_cons_succ]; rfl) (by simp only [List.cons_append, List.nil_append]; rfl) ?_
                                    refine wpFacts_skip10 (by rfl) ?_
                                    refine wpFacts_norm (by simp only [Act.put, List.setIfInBounds_toArray, List.set_cons_zero, List.set_cons_succ]; rfl) (by simp only [List.cons_append, List.nil_append]; rfl) ?_
                                    refine wpFacts_val (by rfl) (fun w1 hL hd K hK => ?_) ?_
                                    · go_simp
                                      exact hK _ (Lat.refl _)
                                    refine wpFacts_norm (by simp only [Act.put, List.setIfInBounds_toArray, List.set_cons_zero, List.set_cons_succ]; rfl) (by simp only [List.cons_append, List.nil_append]; rfl) ?_
                                    refine wpFacts_val (by rfl) (fun w1 hL hd K hK => ?_) ?_
                                    · go_simp
                                      exact hK _ (Lat.refl _)
                                    refine wpFacts_norm (by simp only [Act.put, List.setIfInBounds_toArray, List.set_cons_zero, List.set_cons_succ]; rfl) (by simp only [List.cons_append, List.nil_append]; rfl) ?_
                                    intro wz hLz haz
                                    have hBz : Hid (Below w5.heap.size w5 wz) := hBq.out.trans (Below.mono hLz.of_drew hz5)
                                    have hRz : Hid (wz.heap[R]? = some (.cells #[.int .i64 (l : Int), .slice (some ⟨xb, xof, none⟩) rs.length yc] 43 (0, 0))) := (hLz.of_drew.block _ (Array.getElem?_eq_some_iff.1 hRq.out).1).trans hRq.out
                                    have N1 : Hid _ := NS.out true (fun _ => rfl) (fun _ => rfl)
                                    clear haz hLz hBq hRq HD HHF HHS HCA NS
                                    go_wp2_with fail
                                    go_roundw
                                    case rel => exact ⟨true, k + 1, by omega, rfl, by go_num, hBz, hRz, N1⟩
                                    case measure => simp [intOf]; omega
                        · have hne : (x != (g.terms.length : Int) + (b : Int)) = true := by simp [hxe]
                          have N1 : Hid _ := SKk.out hxe
                          clear SKk STk
                          go_wp2_with fail
                          go_roundw
                          case rel => exact ⟨y, k + 1, by omega, rfl, by go_num, hB, hRb, N1⟩
                          case measure => simp [intOf]; omega
                      · obtain rfl : k = rs.length := by omega
                        have hki : ¬ (rs.length : Int) < (rs.length : Int) := by omega
                        have N1 : Hid _ := RU.out y hW.out
                        clear hW
                        go_wp2_with fail
                        go_roundw
                        case rel => exact ⟨y, i + 1, by omega, rfl, by go_num, hB, N1⟩
                        case measure => simp [intOf]; omega
                  · obtain rfl : i = g.rules.length := by omega
                    have hii : ¬ (g.rules.length : Int) < (g.rules.length : Int) := by omega
                    obtain rfl : y = true := hW.out.done
                    go_wp2_with fail
                    go_roundw
                    case rel => exact ⟨j + 1, by omega, by go_num, hB⟩
                    case measure => simp [intOf]; omega
          · obtain rfl : j = sv.length := by omega
            have hji : ¬ ((sv.length : Nat) : Int) < ((sv.length : Nat) : Int) := by omega
            clear hI0
            go_wp2_with fail
            go_roundw
            case rel => exact ⟨b + 1, by omega, by go_num, hB⟩
            case measure => simp [intOf]; omega
      · obtain rfl : b = g.names.length := by omega
        have hbi : ¬ (g.names.length : Int) < (g.names.length : Int) := by omega
        go_wp2_with fail
        go_loopw [15] (fun iv wr => ∃ i : Nat, i ≤ g.rules.length ∧ iv = .int .i64 i ∧ Hid (Below w5.heap.size w5 wr)) (fun iv _ => g.rules.length - (intOf iv).toNat)
        case atStart => exact ⟨0, Nat.zero_le _, rfl, hB⟩
        case round =>
          obtain ⟨i, hi, rfl, hB⟩ := hrel
          obtain ⟨HBw, hgb, hz5⟩ := HBB.out wr hB.out
          obtain ⟨g0, g1, g2, _⟩ := cells_three_z hgb
          have hgz := (Array.getElem?_eq_some_iff.1 hgb).1
          clear hgb
          by_cases hil : i < g.rules.length
          · have hii : (i : Int) < (g.rules.length : Int) := by omega
            obtain ⟨rb, ro, yo, yc, rfl, _, _, k0, k1, ki, hyc, _⟩ := HG.out.rules i hil
            have HBW : Hid (Below w.heap.size w wr) := HBw
            replace k0 := cell_later HBW.out k0
            replace k1 := cell_later HBW.out k1
            have hmm : g.rules[i] ∈ g.rules := List.getElem_mem hil
            have h8 := H8.out _ hmm
            have hxin := HF.out.right _ hmm
            have hlf := HF.out.left _ hmm
            have OKD : Hid (∀ k, Fi.okG g (g.rules[i].2.drop k) = true) := fun k => Fo.okG_drop HGD0.out hmm k
            have CLO : Hid (∀ (k : Nat) (hk : k < g.rules[i].2.length), (g.terms.length : Int) ≤ g.rules[i].2[k] → (∀ v ∈ Fi.ofG g (g.rules[i].2.drop (k + 1)), v ∈ (Fo.setsG g).getD (g.rules[i].2[k] - (g.terms.length : Int)).toNat []) ∧ (Nl.allIn (Nl.of g) (g.rules[i].2.drop (k + 1)) = true → ∀ v ∈ (Fo.setsG g).getD (g.rules[i].1 - (g.terms.length : Int)).toNat [], v ∈ (Fo.setsG g).getD (g.rules[i].2[k] - (g.terms.length : Int)).toNat [])) := fun k hk hx => Fo.closed HGD0.out hil hk hx
            have KI : Hid (IntsAt w.heap.size w yo g.rules[i].2) := ki
            clear ki hmm HBw
            generalize g.rules[i] = qq at *
            obtain ⟨lz, rs⟩ := qq
            simp only at k0 k1 h8 hxin hlf hyc OKD KI CLO
            obtain ⟨l, rfl⟩ : ∃ l : Nat, lz = l := ⟨lz.toNat, by omega⟩
            obtain ⟨lm, hlm⟩ : ∃ lm : Nat, (l : Int) - (g.terms.length : Int) = lm := ⟨((l : Int) - (g.terms.length : Int)).toNat, by omega⟩
            have hlN : lm < g.names.length := by omega
            have hlI : (lm : Int) < (g.names.length : Int) := by omega
            have hwl : IntKind.wrap .i64 ((l : Int) - (g.terms.length : Int)) = (lm : Int) := by rw [hlm, IntKind.wrap_i64]; omega
            have hwl2 : IntKind.wrap .i64 (lm : Int) = (lm : Int) := by rw [IntKind.wrap_i64]; omega
            have hbn : Hid (Below wr.heap.size wr (wr.alloc (Obj.cells #[.int .i64 (l : Int), .slice yo rs.length yc] 43))) := (Below.refl _ wr).alloc (Nat.le_refl _) _
            have kn : Hid ((wr.alloc (Obj.cells #[.int .i64 (l : Int), .slice yo rs.length yc] 43)).heap[wr.heap.size]? = some (.cells #[.int .i64 (l : Int), .slice yo rs.length yc] 43 (0, 0))) := heap_alloc_new wr _
            have hB1 : Hid (Below w5.heap.size w5 (wr.alloc (Obj.cells #[.int .i64 (l : Int), .slice yo rs.length yc] 43))) := hB.out.trans (hbn.out.mono hz5)
            clear hB hbn HBW
            go_wp2_with fail
            generalize (wr.alloc (Obj.cells #[.int .i64 (l : Int), .slice yo rs.length yc] 43)) = Wr at *
            generalize wr.heap.size = R at *
            clear k0 k1 g0 g1 g2 hgz hz5

            go_loopw [17] (fun kv wr => ∃ k : Nat, k ≤ rs.length ∧ kv = .int .i64 k ∧ Hid (Below w5.heap.size w5 wr) ∧ Hid (wr.heap[R]? = some (.cells #[.int .i64 (l : Int), .slice yo rs.length yc] 43 (0, 0)))) (fun kv _ => rs.length - (intOf kv).toNat)
            case atStart => exact ⟨0, Nat.zero_le _, rfl, hB1, kn⟩
            case round =>
              obtain ⟨k, hk, rfl, hB, hRb⟩ := hrel
              clear hB1 kn
              obtain ⟨r0, r1, _⟩ := cells_two_z hRb.out
              have hrz := (Array.getElem?_eq_some_iff.1 hRb.out).1
              by_cases hkl : k < rs.length
              · have hki : (k : Int) < (rs.length : Int) := by omega
                obtain ⟨HBw, hgb, hz5⟩ := HBB.out wr hB.out
                obtain ⟨xb, xof, rfl, _, _, x0⟩ := IntsAt.get (KI.out.later HBw) k hkl
                have hx := hxin _ (List.getElem_mem hkl)
                have CLk : Hid ((g.terms.length : Int) ≤ rs[k] → (∀ v ∈ Fi.ofG g (rs.drop (k + 1)), v ∈ (Fo.setsG g).getD (rs[k] - (g.terms.length : Int)).toNat []) ∧ (Nl.allIn (Nl.of g) (rs.drop (k + 1)) = true → ∀ v ∈ (Fo.setsG g).getD ((l : Int) - (g.terms.length : Int)).toNat [], v ∈ (Fo.setsG g).getD (rs[k] - (g.terms.length : Int)).toNat [])) := fun a => CLO.out k hkl a
                generalize rs[k] = x at *
                by_cases hxt : x < (g.terms.length : Int)
                · clear CLk
                  go_wp2_with fail
                  go_roundw
                  case rel => exact ⟨k + 1, by omega, by go_num, hB, hRb⟩
                  case measure => simp [intOf]; omega
                · have hxi : (g.terms.length : Int) ≤ x := by omega
                  obtain ⟨xm, hxm⟩ : ∃ xm : Nat, x - (g.terms.length : Int) = xm := ⟨(x - (g.terms.length : Int)).toNat, by omega⟩
                  have hxN : xm < g.names.length := by omega
                  have hxI : (xm : Int) < (g.names.length : Int) := by omega
                  have hwx : IntKind.wrap .i64 (x - (g.terms.length : Int)) = (xm : Int) := by rw [hxm, IntKind.wrap_i64]; omega
                  have hwm : IntKind.wrap .i64 (xm : Int) = (xm : Int) := by rw [IntKind.wrap_i64]; omega
                  obtain ⟨row, hrow⟩ : ∃ row, rs.drop (k + 1) = row := ⟨_, rfl⟩
                  have hrwl : row.length = rs.length - (k + 1) := by rw [← hrow, List.length_drop]
                  obtain ⟨so2, hso⟩ : ∃ so2, (if yc = k + 1 then some (⟨xb, xof, none⟩ : Addr) else some ⟨xb, xof + (k + 1), none⟩) = so2 := ⟨_, rfl⟩
                  have hsl : ∀ W : World, (Instr.slice 31 (.slice (some ⟨xb, xof, none⟩) rs.length yc) (some (.int .i64 ((k : Int) + 1))) none none).run Tryz.prog W = .ok (.slice so2 row.length (yc - (k + 1))) W := fun W => by
                    have := slice_tailI xb xof rs.length yc (k + 1) (by omega) W
                    rw [hso, ← hrwl, show ((k + 1 : Nat) : Int) = (k : Int) + 1 from by omega] at this
                    exact this
                  have ROW : Hid (∀ W : World, IntsAt w.heap.size W (some ⟨xb, xof, none⟩) rs → IntsAt w.heap.size W so2 row) := fun W h q hq => by
                    have hq' : q < row.length := by simpa using hq
                    have hqr : k + 1 + q < rs.length := by omega
                    obtain ⟨b', o', e, h1, h2, h3⟩ := IntsAt.get h (k + 1 + q) hqr
                    simp only [Option.some.injEq, Addr.mk.injEq] at e
                    obtain ⟨rfl, rfl, _⟩ := e
                    have hne : ¬ yc = k + 1 := by omega
                    rw [if_neg hne] at hso
                    refine ⟨_, _, hso.symm, h1, h2, ?_⟩
                    rw [List.getElem_map, show xof + (k + 1) + q = xof + (k + 1 + q) from by omega, h3]
                    congr 2
                    simp only [← hrow, List.getElem_drop]
                  have HRW : Hid (row.length ≤ 4000 ∧ row.length ≤ yc - (k + 1)) := by constructor <;> omega
                  have hkw : IntKind.wrap .i64 ((k : Int) + 1) = (k : Int) + 1 := by rw [IntKind.wrap_i64]; omega
                  obtain ⟨f, hfe⟩ : ∃ f, Fi.ofG g row = f := ⟨_, rfl⟩
                  have FE : Hid (Fi.ofG g row = f) := hfe
                  have HC : Hid (∀ w1 : World, Lat wr.drew w1 → (w1.cell? ⟨w.heap.size, 0, none⟩ = some (.slice ta g.terms.length tc) ∧ w1.cell? ⟨w.heap.size, 1, none⟩ = some (.slice na g.names.length nc) ∧ w1.cell? ⟨w.heap.size, 2, none⟩ = some (.slice (some ⟨rb, ro, none⟩) g.rules.length rc)) ∧ w1.cell? ⟨R, 1, none⟩ = some (.slice (some ⟨xb, xof, none⟩) rs.length yc) ∧ w1.cell? ⟨R, 0, none⟩ = some (.int .i64 (l : Int))) := fun w1 hL => by
                    obtain ⟨g0, g1, g2, _⟩ := cells_three_z hgb
                    exact ⟨⟨cell_later hL.of_drew g0, cell_later hL.of_drew g1, cell_later hL.of_drew g2⟩, cell_later hL.of_drew r1, cell_later hL.of_drew r0⟩
                  have HO1 : Hid (∀ w1 : World, Lat wr.drew w1 → Calls Tryz.prog 18 #[.agg #[.slice ta g.terms.length tc, .slice na g.names.length nc, .slice (some ⟨rb, ro, none⟩) g.rules.length rc], .slice so2 row.length (yc - (k + 1))] w1 fun e w' => ∃ xo xc, e = .returned (.tuple #[.slice xo f.length xc, .int .i64 0]) ∧ Hid (IntsAt w'.heap.size w' xo f) ∧ Hid (Below w1.heap.size w1 w')) := fun w1 hL => by
                    have hb1 := HBw.trans (Below.mono hL.of_drew HBw.size)
                    have := HOF.out w1 row so2 _ hb1 ((ROW.out w1 (KI.out.later hb1)).size) HRW.out.1 HRW.out.2 (by rw [← hrow]; exact OKD.out _)
                    rw [hfe] at this
                    exact this
                  have hfl : f.length ≤ 40 := by rw [← hfe]; exact Nat.le_trans (Fo.ofG_short2 g row) (by omega)
                  obtain ⟨al, hal⟩ : ∃ al, Nl.allIn (Nl.of g) row = al := ⟨_, rfl⟩
                  have CLx := CLk.out hxi
                  rw [hrow, hfe, hal, hlm, hxm, Int.toNat_natCast, Int.toNat_natCast] at CLx
                  have CF : Hid (∀ v ∈ f, v ∈ (Fo.setsG g).getD xm []) := CLx.1
                  have CS : Hid (al = true → ∀ v ∈ (Fo.setsG g).getD lm [], v ∈ (Fo.setsG g).getD xm []) := CLx.2
                  have HA1 : Hid (Nl.allIn (Nl.of g) row = al) := hal
                  clear CLx CLk hfe hal hrwl hso
                  go_upto_region 39 with fail
                  clear r0 r1 hrz
                  as_aux_lemma =>
                    refine wp_region_lat [.val (.agg #[.slice ta g.terms.length tc, .slice na g.names.length nc, .slice (some ⟨rb, ro, none⟩) g.rules.length rc]), .val (.pointer (some ⟨R, 1, none⟩)), .val (.slice (some ⟨xb, xof, none⟩) rs.length yc), .val (.int .i64 k), .val (.int .i64 ((k : Int) + 1)), .val (.slice so2 row.length (yc - (k + 1))), .fact (fun v w' => ∃ xo xc, v = .tuple #[.slice xo f.length xc, .int .i64 0] ∧ IntsAt w'.heap.size w' xo f), .fact (fun v w' => ∃ xo xc, v = .tuple #[.slice xo f.length xc, .int .i64 0] ∧ IntsAt w'.heap.size w' xo f), .fact (fun v w' => ∃ xo xc, v = .slice xo f.length xc ∧ IntsAt w'.heap.size w' xo f), .val (.int .i64 0), .fact (fun v w' => ∃ xo xc, v = .slice xo f.length xc ∧ IntsAt w'.heap.size w' xo f), .val (.int .i64 0)] [] (by kernel_rfl) (by kernel_rfl) rfl ?kept39 ?walk39
                    case kept39 => exact ⟨fun v w1 w2 hL ⟨bo, bc, e, h1⟩ => ⟨bo, bc, e, IntsAt.size (h1.later hL)⟩, fun v w1 w2 hL ⟨bo, bc, e, h1⟩ => ⟨bo, bc, e, IntsAt.size (h1.later hL)⟩, fun v w1 w2 hL ⟨bo, bc, e, h1⟩ => ⟨bo, bc, e, IntsAt.size (h1.later hL)⟩, fun v w1 w2 hL ⟨bo, bc, e, h1⟩ => ⟨bo, bc, e, IntsAt.size (h1.later hL)⟩, trivial⟩
                    case walk39 =>
                      refine wpFacts_val (by rfl) (fun w1 hL hd K hK => ?_) ?_
                      · obtain ⟨⟨d0, d1, d2⟩, d3, d4⟩ := HC.out w1 hL
                        go_simp
                        exact hK _ (Lat.refl _)
                      refine wpFacts_norm (by simp only [Act.put, List.setIfInBounds_toArray, List.set_cons_zero, List.set_cons_succ]; rfl) (by simp only [List.nil_append]; rfl) ?_
                      refine wpFacts_val (by rfl) (fun w1 hL hd K hK => ?_) ?_
                      · go_simp
                        exact hK _ (Lat.refl _)
                      refine wpFacts_norm (by simp only [Act.put, List.setIfInBounds_toArray, List.set_cons_zero, List.set_cons_succ]; rfl) (by simp only [List.cons_append, List.nil_append]; rfl) ?_
                      refine wpFacts_val (by rfl) (fun w1 hL hd K hK => ?_) ?_
                      · obtain ⟨⟨d0, d1, d2⟩, d3, d4⟩ := HC.out w1 hL
                        go_simp
                        exact hK _ (Lat.refl _)
                      refine wpFacts_norm (by simp only [Act.put, List.setIfInBounds_toArray, List.set_cons_zero, List.set_cons_succ]; rfl) (by simp only [List.cons_append, List.nil_append]; rfl) ?_
                      refine wpFacts_val (by rfl) (fun w1 hL hd K hK => ?_) ?_
                      · go_simp
                        exact hK _ (Lat.refl _)
                      refine wpFacts_norm (by simp only [Act.put, List.setIfInBounds_toArray, List.set_cons_zero, List.set_cons_succ]; rfl) (by simp only [List.cons_append, List.nil_append]; rfl) ?_
                      refine wpFacts_val (by rfl) (fun w1 hL hd K hK => ?_) ?_
                      · go_simp
                        exact hK _ (Lat.refl _)
                      refine wpFacts_norm (by simp only [Act.put, List.setIfInBounds_toArray, List.set_cons_zero, List.set_cons_succ]; rfl) (by simp only [List.cons_append, List.nil_append]; rfl) ?_
                      refine wpFacts_val (by rfl) (fun w1 hL hd K hK => ?_) ?_
                      · go_simp
                        exact hK _ (Lat.refl _)
                      refine wpFacts_norm (by simp only [Act.put, List.setIfInBounds_toArray, List.set_cons_zero, List.set_cons_succ]; rfl) (by simp only [List.cons_append, List.nil_append]; rfl) ?_
                      refine wpFacts_fact (by rfl) (fun w1 hL hd K hK => ?_) (fun v1 => ?_)
                      · go_simp
                        refine Calls.mono (HO1.out w1 hL) ?_
                        rintro e w9 ⟨bo, bc, rfl, hb8, hb9⟩
                        exact hK _ _ hb9.out ⟨bo, bc, rfl, hb8.out⟩
                      refine wpFacts_norm (by simp only [Act.put, List.setIfInBounds_toArray, List.set_cons_zero, List.set_cons_succ]; rfl) (by simp only [List.cons_append, List.nil_append]; rfl) ?_
                      refine wpFacts_fact (by rfl) (fun w1 hL hd K hK => ?_) (fun v2 => ?_)
                      · obtain ⟨bo, bc, rfl, q1⟩ : ∃ xo xc, v1 = .tuple #[.slice xo f.length xc, .int .i64 0] ∧ IntsAt w1.heap.size w1 xo f := hd.1
                        go_simp
                        exact hK _ _ (Below.refl _ _) ⟨bo, bc, rfl, q1⟩
                      refine wpFacts_norm (by simp only [Act.put, List.setIfInBounds_toArray, List.set_cons_zero, List.set_cons_succ]; rfl) (by simp only [List.cons_append, List.nil_append]; rfl) ?_
                      refine wpFacts_fact (by rfl) (fun w1 hL hd K hK => ?_) (fun v3 => ?_)
                      · obtain ⟨bo, bc, rfl, q1⟩ : ∃ xo xc, v2 = .tuple #[.slice xo f.length xc, .int .i64 0] ∧ IntsAt w1.heap.size w1 xo f := hd.1
                        go_simp
                        exact hK _ _ (Below.refl _ _) ⟨bo, bc, rfl, q1⟩
                      refine wpFacts_norm (by simp only [Act.put, List.setIfInBounds_toArray, List.set_cons_zero, List.set_cons_succ]; rfl) (by simp only [List.cons_append, List.nil_append]; rfl) ?_
                      refine wpFacts_val (by rfl) (fun w1 hL hd K hK => ?_) ?_
                      · obtain ⟨bo, bc, rfl, q1⟩ : ∃ xo xc, v2 = .tuple #[.slice xo f.length xc, .int .i64 0] ∧ IntsAt w1.heap.size w1 xo f := hd.1
                        go_simp
                        exact hK _ (Below.refl _ _)
                      refine wpFacts_norm (by simp only [Act.put, List.setIfInBounds_toArray, List.set_cons_zero, List.set_cons_succ]; rfl) (by simp only [List.cons_append, List.nil_append]; rfl) ?_
                      refine wpFacts_fact (by rfl) (fun w1 hL hd K hK => ?_) (fun v4 => ?_)
                      · obtain ⟨bo, bc, rfl, q1⟩ : ∃ xo xc, v3 = .slice xo f.length xc ∧ IntsAt w1.heap.size w1 xo f := hd.1
                        go_simp
                        exact hK _ _ (Below.refl _ _) ⟨bo, bc, rfl, q1⟩
                      refine wpFacts_norm (by simp only [Act.put, List.setIfInBounds_toArray, List.set_cons_zero, List.set_cons_succ]; rfl) (by simp only [List.cons_append, List.nil_append]; rfl) ?_
                      refine wpFacts_val (by rfl) (fun w1 hL hd K hK => ?_) ?_
                      · go_simp
                        exact hK _ (Lat.refl _)
                      refine wpFacts_norm (by simp only [Act.put, List.setIfInBounds_toArray, List.set_cons_zero, List.set_cons_succ]; rfl) (by simp only [List.cons_append, List.nil_append]; rfl) ?_
                      intro wq hLq haq
                      obtain ⟨po, pc, rfl, PI0⟩ : ∃ xo xc, v4 = .slice xo f.length xc ∧ IntsAt wq.heap.size wq xo f := allHold_get 10 haq rfl rfl
                      have PI1 : Hid (IntsAt wq.heap.size wq po f) := PI0
                      have hBq : Hid (Below w5.heap.size w5 wq) := hB.out.trans (Below.mono hLq.of_drew hz5)
                      have hRq : Hid (wq.heap[R]? = some (.cells #[.int .i64 (l : Int), .slice (some ⟨xb, xof, none⟩) rs.length yc] 43 (0, 0))) := (hLq.of_drew.block _ (Array.getElem?_eq_some_iff.1 hRb.out).1).trans hRb.out
                      have xq : wq.cell? ⟨xb, xof + k, none⟩ = some (.int .i64 x) := cell_later hLq.of_drew x0
                      clear haq hLq PI0 HC HO1 hB hRb HBw hgb hz5 x0
                      obtain ⟨HBw, hgb, hz5⟩ := HBB.out wq hBq.out
                      have HBQ : Hid (Below w.heap.size w wq) := HBw
                      obtain ⟨rl, cl, sc0, sI0, _⟩ := SC.out wq hBq.out lm hlN
                      obtain ⟨rx, cx, sc2, sI2, _⟩ := SC.out wq hBq.out xm hxN
                      have hsl4 : ((Fo.setsG g).getD lm []).length ≤ 4000 := Nat.le_trans (SROW.out lm hlN).1 (by omega)
                      have hsx4 : ((Fo.setsG g).getD xm []).length ≤ 4000 := Nat.le_trans (SROW.out xm hxN).1 (by omega)
                      have sI1 : Hid (IntsAt wq.heap.size wq rl ((Fo.setsG g).getD lm [])) := sI0
                      have sI3 : Hid (IntsAt wq.heap.size wq rx ((Fo.setsG g).getD xm [])) := sI2
                      clear sI0 sI2
                      generalize (Fo.setsG g).getD lm [] = sl at *
                      generalize (Fo.setsG g).getD xm [] = sx at *
                      have HD : Hid (∀ w1 : World, Lat wq.drew w1 → (w1.cell? ⟨w.heap.size, 0, none⟩ = some (.slice ta g.terms.length tc) ∧ w1.cell? ⟨w.heap.size, 1, none⟩ = some (.slice na g.names.length nc) ∧ w1.cell? ⟨w.heap.size, 2, none⟩ = some (.slice (some ⟨rb, ro, none⟩) g.rules.length rc)) ∧ w1.cell? ⟨R, 0, none⟩ = some (.int .i64 (l : Int)) ∧ w1.cell? ⟨R, 1, none⟩ = some (.slice (some ⟨xb, xof, none⟩) rs.length yc) ∧ w1.cell? ⟨sb, sof + lm, none⟩ = some (.slice rl sl.length cl) ∧ w1.cell? ⟨sb, sof + xm, none⟩ = some (.slice rx sx.length cx) ∧ w1.cell? ⟨xb, xof + k, none⟩ = some (.int .i64 x)) := fun w1 hL => by
                        obtain ⟨g0, g1, g2, _⟩ := cells_three_z hgb
                        obtain ⟨r0, r1, _⟩ := cells_two_z hRq.out
                        exact ⟨⟨cell_later hL.of_drew g0, cell_later hL.of_drew g1, cell_later hL.of_drew g2⟩, cell_later hL.of_drew r0, cell_later hL.of_drew r1, cell_later hL.of_drew sc0, cell_later hL.of_drew sc2, cell_later hL.of_drew xq⟩
                      have HHF : Hid (∀ w1 : World, Lat wq.drew w1 → Calls Tryz.prog 20 #[.slice rx sx.length cx, .slice po f.length pc] w1 fun e w' => e = .returned (.bool true) ∧ Below w1.heap.size w1 w') := fun w1 hL => (all_any sx f rx po cx pc w1 (IntsAt.size (sI3.out.later hL.of_drew)) (IntsAt.size (PI1.out.later hL.of_drew)) hsx4 (by omega) CF.out).mono fun e w' ⟨a, c⟩ => ⟨a, by subst c; exact Below.refl _ _⟩
                      have HHS : Hid (al = true → ∀ w1 : World, Lat wq.drew w1 → Calls Tryz.prog 20 #[.slice rx sx.length cx, .slice rl sl.length cl] w1 fun e w' => e = .returned (.bool true) ∧ Below w1.heap.size w1 w') := fun ha w1 hL => (all_any sx sl rx rl cx cl w1 (IntsAt.size (sI3.out.later hL.of_drew)) (IntsAt.size (sI1.out.later hL.of_drew)) hsx4 hsl4 (CS.out ha)).mono fun e w' ⟨a, c⟩ => ⟨a, by subst c; exact Below.refl _ _⟩
                      have HCA : Hid (∀ w1 : World, Lat wq.drew w1 → Calls Tryz.prog 19 #[.agg #[.slice ta g.terms.length tc, .slice na g.names.length nc, .slice (some ⟨rb, ro, none⟩) g.rules.length rc], .slice so2 row.length (yc - (k + 1))] w1 fun e w' => e = .returned (.bool al) ∧ Below w1.heap.size w1 w') := fun w1 hL => by
                        have hb1 := HBQ.out.trans (Below.mono hL.of_drew HBQ.out.size)
                        exact HAL.out w1 row so2 _ al hb1 ((ROW.out w1 (KI.out.later hb1)).size) HRW.out.1 HA1.out
                      clear HBw hgb sc0 sc2 sI1 sI3 PI1 HA1 FE HBQ hsl4 hsx4 xq CF CS
                      go_upto_region 40 with fail
                      cases al
                      · clear HHS
                        have HHS : Hid True := trivial
                        as_aux_lemma =>
                          refine wp_region_lat [.val (.int .i64 0), .val (.bool false), .val (.bool false), .val (.slice (some ⟨sb, sof, none⟩) g.names.length sc), .val (.pointer (some ⟨R, 1, none⟩)), .val (.slice (some ⟨xb, xof, none⟩) rs.length yc), .val (.int .i64 k), .val (.pointer (some ⟨xb, xof + k, none⟩)), .val (.int .i64 x), .val (.int .i64 g.terms.length), .val (.int .i64 (xm : Int)), .val (.pointer (some ⟨sb, sof + xm, none⟩)), .val (.slice rx sx.length cx), .val (.slice po f.length pc), .val (.bool true), .val (.bool false), .val (.bool false), .val (.bool false), .val (.agg #[.slice ta g.terms.length tc, .slice na g.names.length nc, .slice (some ⟨rb, ro, none⟩) g.rules.length rc]), .val (.pointer (some ⟨R, 1, none⟩)), .val (.slice (some ⟨xb, xof, none⟩) rs.length yc), .val (.int .i64 k), .val (.int .i64 ((k : Int) + 1)), .val (.slice so2 row.length (yc - (k + 1))), .val (.bool false), .val (.bool false), .val undef, .val undef, .val undef, .val undef, .val undef, .val undef, .val undef, .val undef, .val undef, .val undef, .val undef, .val undef, .val undef, .val undef, .val undef, .val undef, .val undef, .val undef, .val undef, .val (.bool false), .val (.bool false)] [] (by kernel_rfl) (by kernel_rfl) rfl ?kept40false ?walk40false
                          case kept40false => exact trivial
                          case walk40false =>
                            refine wpFacts_val (by rfl) (fun w1 hL hd K hK => ?_) ?_
                            · go_simp
                              exact hK _ (Lat.refl _)
                            refine wpFacts_norm (by simp only [Act.put, List.setIfInBounds_toArray, List.set_cons_zero, List.set_cons_succ]; rfl) (by simp only [List.nil_append]; rfl) ?_
                            refine wpFacts_val (by rfl) (fun w1 hL hd K hK => ?_) ?_
                            · go_simp
                              exact hK _ (Lat.refl _)
                            refine wpFacts_norm (by simp only [Act.put, List.setIfInBounds_toArray, List.set_cons_zero, List.set_cons_succ]; rfl) (by simp only [List.cons_append, List.nil_append]; rfl) ?_
                            refine wpFacts_val (by rfl) (fun w1 hL hd K hK => ?_) ?_
                            · go_simp
                              exact hK _ (Lat.refl _)
                            refine wpFacts_norm (by simp only [Act.put, List.setIfInBounds_toArray, List.set_cons_zero, List.set_cons_succ]; rfl) (by simp only [List.cons_append, List.nil_append]; rfl) ?_
                            refine wpFacts_val (by rfl) (fun w1 hL hd K hK => ?_) ?_
                            · go_simp
                              exact hK _ (Lat.refl _)
                            refine wpFacts_norm (by simp only [Act.put, List.setIfInBounds_toArray, List.set_cons_zero, List.set_cons_succ]; rfl) (by simp only [List.cons_append, List.nil_append]; rfl) ?_
                            refine wpFacts_val (by rfl) (fun w1 hL hd K hK => ?_) ?_
                            · go_simp
                              exact hK _ (Lat.refl _)
                            refine wpFacts_norm (by simp only [Act.put, List.setIfInBounds_toArray, List.set_cons_zero, List.set_cons_succ]; rfl) (by simp only [List.cons_append, List.nil_append]; rfl) ?_
                            refine wpFacts_val (by rfl) (fun w1 hL hd K hK => ?_) ?_
                            · obtain ⟨⟨d0, d1, d2⟩, d3, d4, d5, d6, d7⟩ := HD.out w1 hL
                              go_simp
                              exact hK _ (Lat.refl _)
                            refine wpFacts_norm (by simp only [Act.put, List.setIfInBounds_toArray, List.set_cons_zero, List.set_cons_succ]; rfl) (by simp only [List.cons_append, List.nil_append]; rfl) ?_
                            refine wpFacts_val (by rfl) (fun w1 hL hd K hK => ?_) ?_
                            · go_simp
                              exact hK _ (Lat.refl _)
                            refine wpFacts_norm (by simp only [Act.put, List.setIfInBounds_toArray, List.set_cons_zero, List.set_cons_succ]; rfl) (by simp only [List.cons_append, List.nil_append]; rfl) ?_
                            refine wpFacts_val (by rfl) (fun w1 hL hd K hK => ?_) ?_
                            · go_simp
                              exact hK _ (Lat.refl _)
                            refine wpFacts_norm (by simp only [Act.put, List.setIfInBounds_toArray, List.set_cons_zero, List.set_cons_succ]; rfl) (by simp only [List.cons_append, List.nil_append]; rfl) ?_
                            refine wpFacts_val (by rfl) (fun w1 hL hd K hK => ?_) ?_
                            · obtain ⟨⟨d0, d1, d2⟩, d3, d4, d5, d6, d7⟩ := HD.out w1 hL
                              go_simp
                              exact hK _ (Lat.refl _)
                            refine wpFacts_norm (by simp only [Act.put, List.setIfInBounds_toArray, List.set_cons_zero, List.set_cons_succ]; rfl) (by simp only [List.cons_append, List.nil_append]; rfl) ?_
                            refine wpFacts_val (by rfl) (fun w1 hL hd K hK => ?_) ?_
                            · go_simp
                              exact hK _ (Lat.refl _)
                            refine wpFacts_norm (by simp only [Act.put, List.setIfInBounds_toArray, List.set_cons_zero, List.set_cons_succ]; rfl) (by simp only [List.cons_append, List.nil_append]; rfl) ?_
                            refine wpFacts_val (by rfl) (fun w1 hL hd K hK => ?_) ?_
                            · go_simp
                              exact hK _ (Lat.refl _)
                            refine wpFacts_norm (by simp only [Act.put, List.setIfInBounds_toArray, List.set_cons_zero, List.set_cons_succ]; rfl) (by simp only [List.cons_append, List.nil_append]; rfl) ?_
                            refine wpFacts_val (by rfl) (fun w1 hL hd K hK => ?_) ?_
                            · go_simp
                              exact hK _ (Lat.refl _)
                            refine wpFacts_norm (by simp only [Act.put, List.setIfInBounds_toArray, List.set_cons_zero, List.set_cons_succ]; rfl) (by simp only [List.cons_append, List.nil_append]; rfl) ?_
                            refine wpFacts_val (by rfl) (fun w1 hL hd K hK => ?_) ?_
                            · obtain ⟨⟨d0, d1, d2⟩, d3, d4, d5, d6, d7⟩ := HD.out w1 hL
                              go_simp
                              exact hK _ (Lat.refl _)
                            refine wpFacts_norm (by simp only [Act.put, List.setIfInBounds_toArray, List.set_cons_zero, List.set_cons_succ]; rfl) (by simp only [List.cons_append, List.nil_append]; rfl) ?_
                            refine wpFacts_val (by rfl) (fun w1 hL hd K hK => ?_) ?_
                            · go_simp
                              exact hK _ (Lat.refl _)
                            refine wpFacts_norm (by simp only [Act.put, List.setIfInBounds_toArray, List.set_cons_zero, List.set_cons_succ]; rfl) (by simp only [List.cons_append, List.nil_append]; rfl) ?_
                            refine wpFacts_val (by rfl) (fun w1 hL hd K hK => ?_) ?_
                            · go_simp
                              refine Calls.mono (HHF.out w1 hL) ?_
                              rintro e w9 ⟨rfl, hb9⟩
                              exact hK _ hb9
                            refine wpFacts_norm (by simp only [Act.put, List.setIfInBounds_toArray, List.set_cons_zero, List.set_cons_succ]; rfl) (by simp only [List.cons_append, List.nil_append]; rfl) ?_
                            refine wpFacts_val (by rfl) (fun w1 hL hd K hK => ?_) ?_
                            · go_simp
                              exact hK _ (Lat.refl _)
                            refine wpFacts_norm (by simp only [Act.put, List.setIfInBounds_toArray, List.set_cons_zero, List.set_cons_succ]; rfl) (by simp only [List.cons_append, List.nil_append]; rfl) ?_
                            refine wpFacts_val (by rfl) (fun w1 hL hd K hK => ?_) ?_
                            · go_simp
                              exact hK _ (Lat.refl _)
                            refine wpFacts_norm (by simp only [Act.put, List.setIfInBounds_toArray, List.set_cons_zero, List.set_cons_succ]; rfl) (by simp only [List.cons_append, List.nil_append]; rfl) ?_
                            refine wpFacts_val (by rfl) (fun w1 hL hd K hK => ?_) ?_
                            · go_simp
                              exact hK _ (Lat.refl _)
                            refine wpFacts_norm (by simp only [Act.put, List.setIfInBounds_toArray, List.set_cons_zero, List.set_cons_succ]; rfl) (by simp only [List.cons_append, List.nil_append]; rfl) ?_
                            refine wpFacts_val (by rfl) (fun w1 hL hd K hK => ?_) ?_
                            · obtain ⟨⟨d0, d1, d2⟩, d3, d4, d5, d6, d7⟩ := HD.out w1 hL
                              go_simp
                              exact hK _ (Lat.refl _)
                            refine wpFacts_norm (by simp only [Act.put, List.setIfInBounds_toArray, List.set_cons_zero, List.set_cons_succ]; rfl) (by simp only [List.cons_append, List.nil_append]; rfl) ?_
                            refine wpFacts_val (by rfl) (fun w1 hL hd K hK => ?_) ?_
                            · go_simp
                              exact hK _ (Lat.refl _)
                            refine wpFacts_norm (by simp only [Act.put, List.setIfInBounds_toArray, List.set_cons_zero, List.set_cons_succ]; rfl) (by simp only [List.cons_append, List.nil_append]; rfl) ?_
                            refine wpFacts_val (by rfl) (fun w1 hL hd K hK => ?_) ?_
                            · obtain ⟨⟨d0, d1, d2⟩, d3, d4, d5, d6, d7⟩ := HD.out w1 hL
                              go_simp
                              exact hK _ (Lat.refl _)
                            refine wpFacts_norm (by simp only [Act.put, List.setIfInBounds_toArray, List.set_cons_zero, List.set_cons_succ]; rfl) (by simp only [List.cons_append, List.nil_append]; rfl) ?_
                            refine wpFacts_val (by rfl) (fun w1 hL hd K hK => ?_) ?_
                            · go_simp
                              exact hK _ (Lat.refl _)
                            refine wpFacts_norm (by simp only [Act.put, List.setIfInBounds_toArray, List.set_cons_zero, List.set_cons_succ]; rfl) (by simp only [List.cons_append, List.nil_append]; rfl) ?_
                            refine wpFacts_val (by rfl) (fun w1 hL hd K hK => ?_) ?_
                            · go_simp
                              exact hK _ (Lat.refl _)
                            refine wpFacts_norm (by simp only [Act.put, List.setIfInBounds_toArray, List.set_cons_zero, List.set_cons_succ]; rfl) (by simp only [List.cons_append, List.nil_append]; rfl) ?_
                            refine wpFacts_val (by rfl) (fun w1 hL hd K hK => ?_) ?_
                            · go_simp
                              exact hK _ (Lat.refl _)
                            refine wpFacts_norm (by simp only [Act.put, List.setIfInBounds_toArray, List.set_cons_zero, List.set_cons_succ]; rfl) (by simp only [List.cons_append, List.nil_append]; rfl) ?_
                            refine wpFacts_val (by rfl) (fun w1 hL hd K hK => ?_) ?_
                            · go_simp
                              refine Calls.mono (HCA.out w1 hL) ?_
                              rintro e w9 ⟨rfl, hb9⟩
                              exact hK _ hb9
                            refine wpFacts_norm (by simp only [Act.put, List.setIfInBounds_toArray, List.set_cons_zero, List.set_cons_succ]; rfl) (by simp only [List.cons_append, List.nil_append]; rfl) ?_
                            refine wpFacts_val (by rfl) (fun w1 hL hd K hK => ?_) ?_
                            · go_simp
                              exact hK _ (Lat.refl _)
                            refine wpFacts_norm (by simp only [Act.put, List.setIfInBounds_toArray, List.set_cons_zero, List.set_cons_succ]; rfl) (by simp only [List.cons_append, List.nil_append]; rfl) ?_
                            refine wpFacts_skip10 (by rfl) ?_
                            refine wpFacts_norm (by simp only [Act.put, List.setIfInBounds_toArray, List.set_cons_zero, List.set_cons_succ]; rfl) (by simp only [List.cons_append, List.nil_append]; rfl) ?_
                            refine wpFacts_skip10 (by rfl) ?_
                            refine wpFacts_norm (by simp only [Act.put, List.setIfInBounds_toArray, List.set_cons_zero, List.set_cons_succ]; rfl) (by simp only [List.cons_append, List.nil_append]; rfl) ?_
                            refine wpFacts_skip10 (by rfl) ?_
                            refine wpFacts_norm (by simp only [Act.put, List.setIfInBounds_toArray, List.set_cons_zero, List.set_cons_succ]; rfl) (by simp only [List.cons_append, List.nil_append]; rfl) ?_
                            refine wpFacts_skip10 (by rfl) ?_
                            refine wpFacts_norm (by simp only [Act.put, List.setIfInBounds_toArray, List.set_cons_zero, List.set_cons_succ]; rfl) (by simp only [List.cons_append, List.nil_append]; rfl) ?_
                            refine wpFacts_skip10 (by rfl) ?_
                            refine wpFacts_norm (by simp only [Act.put, List.setIfInBounds_toArray, List.set_cons_zero, List.set_cons_succ]; rfl) (by simp only [List.cons_append, List.nil_append]; rfl) ?_
                            refine wpFacts_skip10 (by rfl) ?_
                            refine wpFacts_norm (by simp only [Act.put, List.setIfInBounds_toArray, List.set_cons_zero, List.set_cons_succ]; rfl) (by simp only [List.cons_append, List.nil_append]; rfl) ?_
                            refine wpFacts_skip10 (by rfl) ?_
                            refine wpFacts_norm (by simp only [Act.put, List.setIfInBounds_toArray, List.set_cons_zero, List.set_cons_succ]; rfl) (by simp only [List.cons_append, List.nil_append]; rfl) ?_
                            refine wpFacts_skip10 (by rfl) ?_
                            refine wpFacts_norm (by simp only [Act.put, List.setIfInBounds_toArray, List.set_cons_zero, List.set_cons_succ]; rfl) (by simp only [List.cons_append, List.nil_append]; rfl) ?_
                            refine wpFacts_skip10 (by rfl) ?_
                            refine wpFacts_norm (by simp only [Act.put, List.setIfInBounds_toArray, List.set_cons_zero, List.set_cons_succ]; rfl) (by simp only [List.cons_append, List.nil_append]; rfl) ?_
                            refine wpFacts_skip10 (by rfl) ?_
                            refine wpFacts_norm (by simp only [Act.put, List.setIfInBounds_toArray, List.set_cons_zero, List.set_cons_succ]; rfl) (by simp only [List.cons_append, List.nil_append]; rfl) ?_
                            refine wpFacts_skip10 (by rfl) ?_
                            refine wpFacts_norm (by simp only [Act.put, List.setIfInBounds_toArray, List.set_cons_zero, List.set_cons_succ]; rfl) (by simp only [List.cons_append, List.nil_append]; rfl) ?_
                            refine wpFacts_skip10 (by rfl) ?_
                            refine wpFacts_norm (by simp only [Act.put, List.setIfInBounds_toArray, List.set_cons_zero, List.set_cons_succ]; rfl) (by simp only [List.cons_append, List.nil_append]; rfl) ?_
                            refine wpFacts_skip10 (by rfl) ?_
                            refine wpFacts_norm (by simp only [Act.put, List.setIfInBounds_toArray, List.set_cons_zero, List.set_cons_succ]; rfl) (by simp only [List.cons_append, List.nil_append]; rfl) ?_
                            refine wpFacts_skip10 (by rfl) ?_
                            refine wpFacts_norm (by simp only [Act.put, List.setIfInBounds_toArray, List.set_cons_zero, List.set_cons_succ]; rfl) (by simp only [List.cons_append, List.nil_append]; rfl) ?_
                            refine wpFacts_skip10 (by rfl) ?_
                            refine wpFacts_norm (by simp only [Act.put, List.setIfInBounds_toArray, List.set_cons_zero, List.set_cons_succ]; rfl) (by simp only [List.cons_append, List.nil_append]; rfl) ?_
                            refine wpFacts_skip10 (by rfl) ?_
                            refine wpFacts_norm (by simp only [Act.put, List.setIfInBounds_toArray, List.set_cons_zero, List.set_cons_succ]; rfl) (by simp only [List.cons_append, List.nil_append]; rfl) ?_
                            refine wpFacts_skip10 (by rfl) ?_
                            refine wpFacts_norm (by simp only [Act.put, List.setIfInBounds_toArray, List.set_cons_zero, List.set_cons_succ]; rfl) (by simp only [List.cons_append, List.nil_append]; rfl) ?_
                            refine wpFacts_skip10 (by rfl) ?_
                            refine wpFacts_norm (by simp only [Act.put, List.setIfInBounds_toArray, List.set_cons_zero, List.set_cons_succ]; rfl) (by simp only [List.cons_append, List.nil_append]; rfl) ?_
                            refine wpFacts_skip10 (by rfl) ?_
                            refine wpFacts_norm (by simp only [Act.put, List.setIfInBounds_toArray, List.set_cons_zero, List.set_cons_succ]; rfl) (by simp only [List.cons_append, List.nil_append]; rfl) ?_
                            refine wpFacts_val (by rfl) (fun w1 hL hd K hK => ?_) ?_
                            · go_simp
                              exact hK _ (Lat.refl _)
                            refine wpFacts_norm (by simp only [Act.put, List.setIfInBounds_toArray, List.set_cons_zero, List.set_cons_succ]; rfl) (by simp only [List.cons_append, List.nil_append]; rfl) ?_
                            refine wpFacts_val (by rfl) (fun w1 hL hd K hK => ?_) ?_
                            · go_simp
                              exact hK _ (Lat.refl _)
                            refine wpFacts_norm (by simp only [Act.put, List.setIfInBounds_toArray, List.set_cons_zero, List.set_cons_succ]; rfl) (by simp only [List.cons_append, List.nil_append]; rfl) ?_
                            intro wz hLz haz
                            have hBz : Hid (Below w5.heap.size w5 wz) := hBq.out.trans (Below.mono hLz.of_drew hz5)
                            have hRz : Hid (wz.heap[R]? = some (.cells #[.int .i64 (l : Int), .slice (some ⟨xb, xof, none⟩) rs.length yc] 43 (0, 0))) := (hLz.of_drew.block _ (Array.getElem?_eq_some_iff.1 hRq.out).1).trans hRq.out
                            clear haz hLz hBq hRq HD HHF HHS HCA
                            go_wp2_with fail
                            go_roundw
                            case rel => exact ⟨k + 1, by omega, by go_num, hBz, hRz⟩
                            case measure => simp [intOf]; omega
                      · replace HHS := HHS.out rfl
                        have HH9 : Hid _ := HHS
                        clear HHS
                        have HHS : Hid _ := HH9.out
                        clear HH9
                        as_aux_lemma =>
                          refine wp_region_lat [.val (.int .i64 0), .val (.bool false), .val (.bool false), .val (.slice (some ⟨sb, sof, none⟩) g.names.length sc), .val (.pointer (some ⟨R, 1, none⟩)), .val (.slice (some ⟨xb, xof, none⟩) rs.length yc), .val (.int .i64 k), .val (.pointer (some ⟨xb, xof + k, none⟩)), .val (.int .i64 x), .val (.int .i64 g.terms.length), .val (.int .i64 (xm : Int)), .val (.pointer (some ⟨sb, sof + xm, none⟩)), .val (.slice rx sx.length cx), .val (.slice po f.length pc), .val (.bool true), .val (.bool false), .val (.bool false), .val (.bool false), .val (.agg #[.slice ta g.terms.length tc, .slice na g.names.length nc, .slice (some ⟨rb, ro, none⟩) g.rules.length rc]), .val (.pointer (some ⟨R, 1, none⟩)), .val (.slice (some ⟨xb, xof, none⟩) rs.length yc), .val (.int .i64 k), .val (.int .i64 ((k : Int) + 1)), .val (.slice so2 row.length (yc - (k + 1))), .val (.bool true), .val (.bool true), .val (.slice (some ⟨sb, sof, none⟩) g.names.length sc), .val (.pointer (some ⟨R, 1, none⟩)), .val (.slice (some ⟨xb, xof, none⟩) rs.length yc), .val (.int .i64 k), .val (.pointer (some ⟨xb, xof + k, none⟩)), .val (.int .i64 x), .val (.int .i64 g.terms.length), .val (.int .i64 (xm : Int)), .val (.pointer (some ⟨sb, sof + xm, none⟩)), .val (.slice rx sx.length cx), .val (.slice (some ⟨sb, sof, none⟩) g.names.length sc), .val (.pointer (some ⟨R, 0, none⟩)), .val (.int .i64 (l : Int)), .val (.int .i64 g.terms.length), .val (.int .i64 (lm : Int)), .val (.pointer (some ⟨sb, sof + lm, none⟩)), .val (.slice rl sl.length cl), .val (.bool true), .val (.bool false), .val (.bool false), .val (.bool false)] [] (by kernel_rfl) (by kernel_rfl) rfl ?kept40true ?walk40true
                          case kept40true => exact trivial
                          case walk40true =>
                            refine wpFacts_val (by rfl) (fun w1 hL hd K hK => ?_) ?_
                            · go_simp
                              exact hK _ (Lat.refl _)
                            refine wpFacts_norm (by simp only [Act.put, List.setIfInBounds_toArray, List.set_cons_zero, List.set_cons_succ]; rfl) (by simp only [List.nil_append]; rfl) ?_
                            refine wpFacts_val (by rfl) (fun w1 hL hd K hK => ?_) ?_
                            · go_simp
                              exact hK _ (Lat.refl _)
                            refine wpFacts_norm (by simp only [Act.put, List.setIfInBounds_toArray, List.set_cons_zero, List.set_cons_succ]; rfl) (by simp only [List.cons_append, List.nil_append]; rfl) ?_
                            refine wpFacts_val (by rfl) (fun w1 hL hd K hK => ?_) ?_
                            · go_simp
                              exact hK _ (Lat.refl _)
                            refine wpFacts_norm (by simp only [Act.put, List.setIfInBounds_toArray, List.set_cons_zero, List.set_cons_succ]; rfl) (by simp only [List.cons_append, List.nil_append]; rfl) ?_
                            refine wpFacts_val (by rfl) (fun w1 hL hd K hK => ?_) ?_
                            · go_simp
                              exact hK _ (Lat.refl _)
                            refine wpFacts_norm (by simp only [Act.put, List.setIfInBounds_toArray, List.set_cons_zero, List.set_cons_succ]; rfl) (by simp only [List.cons_append, List.nil_append]; rfl) ?_
                            refine wpFacts_val (by rfl) (fun w1 hL hd K hK => ?_) ?_
                            · go_simp
                              exact hK _ (Lat.refl _)
                            refine wpFacts_norm (by simp only [Act.put, List.setIfInBounds_toArray, List.set_cons_zero, List.set_cons_succ]; rfl) (by simp only [List.cons_append, List.nil_append]; rfl) ?_
                            refine wpFacts_val (by rfl) (fun w1 hL hd K hK => ?_) ?_
                            · obtain ⟨⟨d0, d1, d2⟩, d3, d4, d5, d6, d7⟩ := HD.out w1 hL
                              go_simp
                              exact hK _ (Lat.refl _)
                            refine wpFacts_norm (by simp only [Act.put, List.setIfInBounds_toArray, List.set_cons_zero, List.set_cons_succ]; rfl) (by simp only [List.cons_append, List.nil_append]; rfl) ?_
                            refine wpFacts_val (by rfl) (fun w1 hL hd K hK => ?_) ?_
                            · go_simp
                              exact hK _ (Lat.refl _)
                            refine wpFacts_norm (by simp only [Act.put, List.setIfInBounds_toArray, List.set_cons_zero, List.set_cons_succ]; rfl) (by simp only [List.cons_append, List.nil_append]; rfl) ?_
                            refine wpFacts_val (by rfl) (fun w1 hL hd K hK => ?_) ?_
                            · go_simp
                              exact hK _ (Lat.refl _)
                            refine wpFacts_norm (by simp only [Act.put, List.setIfInBounds_toArray, List.set_cons_zero, List.set_cons_succ]; rfl) (by simp only [List.cons_append, List.nil_append]; rfl) ?_
                            refine wpFacts_val (by rfl) (fun w1 hL hd K hK => ?_) ?_
                            · obtain ⟨⟨d0, d1, d2⟩, d3, d4, d5, d6, d7⟩ := HD.out w1 hL
                              go_simp
                              exact hK _ (Lat.refl _)
                            refine wpFacts_norm (by simp only [Act.put, List.setIfInBounds_toArray, List.set_cons_zero, List.set_cons_succ]; rfl) (by simp only [List.cons_append, List.nil_append]; rfl) ?_
                            refine wpFacts_val (by rfl) (fun w1 hL hd K hK => ?_) ?_
                            · go_simp
                              exact hK _ (Lat.refl _)
                            refine wpFacts_norm (by simp only [Act.put, List.setIfInBounds_toArray, List.set_cons_zero, List.set_cons_succ]; rfl) (by simp only [List.cons_append, List.nil_append]; rfl) ?_
                            refine wpFacts_val (by rfl) (fun w1 hL hd K hK => ?_) ?_
                            · go_simp
                              exact hK _ (Lat.refl _)
                            refine wpFacts_norm (by simp only [Act.put, List.setIfInBounds_toArray, List.set_cons_zero, List.set_cons_succ]; rfl) (by simp only [List.cons_append, List.nil_append]; rfl) ?_
                            refine wpFacts_val (by rfl) (fun w1 hL hd K hK => ?_) ?_
                            · go_simp
                              exact hK _ (Lat.refl _)
                            refine wpFacts_norm (by simp only [Act.put, List.setIfInBounds_toArray, List.set_cons_zero, List.set_cons_succ]; rfl) (by simp only [List.cons_append, List.nil_append]; rfl) ?_
                            refine wpFacts_val (by rfl) (fun w1 hL hd K hK => ?_) ?_
                            · obtain ⟨⟨d0, d1, d2⟩, d3, d4, d5, d6, d7⟩ := HD.out w1 hL
                              go_simp
                              exact hK _ (Lat.refl _)
                            refine wpFacts_norm (by simp only [Act.put, List.setIfInBounds_toArray, List.set_cons_zero, List.set_cons_succ]; rfl) (by simp only [List.cons_append, List.nil_append]; rfl) ?_
                            refine wpFacts_val (by rfl) (fun w1 hL hd K hK => ?_) ?_
                            · go_simp
                              exact hK _ (Lat.refl _)
                            refine wpFacts_norm (by simp only [Act.put, List.setIfInBounds_toArray, List.set_cons_zero, List.set_cons_succ]; rfl) (by simp only [List.cons_append, List.nil_append]; rfl) ?_
                            refine wpFacts_val (by rfl) (fun w1 hL hd K hK => ?_) ?_
                            · go_simp
                              refine Calls.mono (HHF.out w1 hL) ?_
                              rintro e w9 ⟨rfl, hb9⟩
                              exact hK _ hb9
                            refine wpFacts_norm (by simp only [Act.put, List.setIfInBounds_toArray, List.set_cons_zero, List.set_cons_succ]; rfl) (by simp only [List.cons_append, List.nil_append]; rfl) ?_
                            refine wpFacts_val (by rfl) (fun w1 hL hd K hK => ?_) ?_
                            · go_simp
                              exact hK _ (Lat.refl _)
                            refine wpFacts_norm (by simp only [Act.put, List.setIfInBounds_toArray, List.set_cons_zero, List.set_cons_succ]; rfl) (by simp only [List.cons_append, List.nil_append]; rfl) ?_
                            refine wpFacts_val (by rfl) (fun w1 hL hd K hK => ?_) ?_
                            · go_simp
                              exact hK _ (Lat.refl _)
                            refine wpFacts_norm (by simp only [Act.put, List.setIfInBounds_toArray, List.set_cons_zero, List.set_cons_succ]; rfl) (by simp only [List.cons_append, List.nil_append]; rfl) ?_
                            refine wpFacts_val (by rfl) (fun w1 hL hd K hK => ?_) ?_
                            · go_simp
                              exact hK _ (Lat.refl _)
                            refine wpFacts_norm (by simp only [Act.put, List.setIfInBounds_toArray, List.set_cons_zero, List.set_cons_succ]; rfl) (by simp only [List.cons_append, List.nil_append]; rfl) ?_
                            refine wpFacts_val (by rfl) (fun w1 hL hd K hK => ?_) ?_
                            · obtain ⟨⟨d0, d1, d2⟩, d3, d4, d5, d6, d7⟩ := HD.out w1 hL
                              go_simp
                              exact hK _ (Lat.refl _)
                            refine wpFacts_norm (by simp only [Act.put, List.setIfInBounds_toArray, List.set_cons_zero, List.set_cons_succ]; rfl) (by simp only [List.cons_append, List.nil_append]; rfl) ?_
                            refine wpFacts_val (by rfl) (fun w1 hL hd K hK => ?_) ?_
                            · go_simp
                              exact hK _ (Lat.refl _)
                            refine wpFacts_norm (by simp only [Act.put, List.setIfInBounds_toArray, List.set_cons_zero, List.set_cons_succ]; rfl) (by simp only [List.cons_append, List.nil_append]; rfl) ?_
                            refine wpFacts_val (by rfl) (fun w1 hL hd K hK => ?_) ?_
                            · obtain ⟨⟨d0, d1, d2⟩, d3, d4, d5, d6, d7⟩ := HD.out w1 hL
                              go_simp
                              exact hK _ (Lat.refl _)
                            refine wpFacts_norm (by simp only [Act.put, List.setIfInBounds_toArray, List.set_cons_zero, List.set_cons_succ]; rfl) (by simp only [List.cons_append, List.nil_append]; rfl) ?_
                            refine wpFacts_val (by rfl) (fun w1 hL hd K hK => ?_) ?_
                            · go_simp
                              exact hK _ (Lat.refl _)
                            refine wpFacts_norm (by simp only [Act.put, List.setIfInBounds_toArray, List.set_cons_zero, List.set_cons_succ]; rfl) (by simp only [List.cons_append, List.nil_append]; rfl) ?_
                            refine wpFacts_val (by rfl) (fun w1 hL hd K hK => ?_) ?_
                            · go_simp
                              exact hK _ (Lat.refl _)
                            refine wpFacts_norm (by simp only [Act.put, List.setIfInBounds_toArray, List.set_cons_zero, List.set_cons_succ]; rfl) (by simp only [List.cons_append, List.nil_append]; rfl) ?_
                            refine wpFacts_val (by rfl) (fun w1 hL hd K hK => ?_) ?_
                            · go_simp
                              exact hK _ (Lat.refl _)
                            refine wpFacts_norm (by simp only [Act.put, List.setIfInBounds_toArray, List.set_cons_zero, List.set_cons_succ]; rfl) (by simp only [List.cons_append, List.nil_append]; rfl) ?_
                            refine wpFacts_val (by rfl) (fun w1 hL hd K hK => ?_) ?_
                            · go_simp
                              refine Calls.mono (HCA.out w1 hL) ?_
                              rintro e w9 ⟨rfl, hb9⟩
                              exact hK _ hb9
                            refine wpFacts_norm (by simp only [Act.put, List.setIfInBounds_toArray, List.set_cons_zero, List.set_cons_succ]; rfl) (by simp only [List.cons_append, List.nil_append]; rfl) ?_
                            refine wpFacts_val (by rfl) (fun w1 hL hd K hK => ?_) ?_
                            · go_simp
                              exact hK _ (Lat.refl _)
                            refine wpFacts_norm (by simp only [Act.put, List.setIfInBounds_toArray, List.set_cons_zero, List.set_cons_succ]; rfl) (by simp only [List.cons_append, List.nil_append]; rfl) ?_
                            refine wpFacts_val (by rfl) (fun w1 hL hd K hK => ?_) ?_
                            · go_simp
                              exact hK _ (Lat.refl _)
                            refine wpFacts_norm (by simp only [Act.put, List.setIfInBounds_toArray, List.set_cons_zero, List.set_cons_succ]; rfl) (by simp only [List.cons_append, List.nil_append]; rfl) ?_
                            refine wpFacts_val (by rfl) (fun w1 hL hd K hK => ?_) ?_
                            · go_simp
                              exact hK _ (Lat.refl _)
                            refine wpFacts_norm (by simp only [Act.put, List.setIfInBounds_toArray, List.set_cons_zero, List.set_cons_succ]; rfl) (by simp only [List.cons_append, List.nil_append]; rfl) ?_
                            refine wpFacts_val (by rfl) (fun w1 hL hd K hK => ?_) ?_
                            · obtain ⟨⟨d0, d1, d2⟩, d3, d4, d5, d6, d7⟩ := HD.out w1 hL
                              go_simp
                              exact hK _ (Lat.refl _)
                            refine wpFacts_norm (by simp only [Act.put, List.setIfInBounds_toArray, List.set_cons_zero, List.set_cons_succ]; rfl) (by simp only [List.cons_append, List.nil_append]; rfl) ?_
                            refine wpFacts_val (by rfl) (fun w1 hL hd K hK => ?_) ?_
                            · go_simp
                              exact hK _ (Lat.refl _)
                            refine wpFacts_norm (by simp only [Act.put, List.setIfInBounds_toArray, List.set_cons_zero, List.set_cons_succ]; rfl) (by simp only [List.cons_append, List.nil_append]; rfl) ?_
                            refine wpFacts_val (by rfl) (fun w1 hL hd K hK => ?_) ?_
                            · go_simp
                              exact hK _ (Lat.refl _)
                            refine wpFacts_norm (by simp only [Act.put, List.setIfInBounds_toArray, List.set_cons_zero, List.set_cons_succ]; rfl) (by simp only [List.cons_append, List.nil_append]; rfl) ?_
                            refine wpFacts_val (by rfl) (fun w1 hL hd K hK => ?_) ?_
                            · obtain ⟨⟨d0, d1, d2⟩, d3, d4, d5, d6, d7⟩ := HD.out w1 hL
                              go_simp
                              exact hK _ (Lat.refl _)
                            refine wpFacts_norm (by simp only [Act.put, List.setIfInBounds_toArray, List.set_cons_zero, List.set_cons_succ]; rfl) (by simp only [List.cons_append, List.nil_append]; rfl) ?_
                            refine wpFacts_val (by rfl) (fun w1 hL hd K hK => ?_) ?_
                            · go_simp
                              exact hK _ (Lat.refl _)
                            refine wpFacts_norm (by simp only [Act.put, List.setIfInBounds_toArray, List.set_cons_zero, List.set_cons_succ]; rfl) (by simp only [List.cons_append, List.nil_append]; rfl) ?_
                            refine wpFacts_val (by rfl) (fun w1 hL hd K hK => ?_) ?_
                            · go_simp
                              exact hK _ (Lat.refl _)
                            refine wpFacts_norm (by simp only [Act.put, List.setIfInBounds_toArray, List.set_cons_zero, List.set_cons_succ]; rfl) (by simp only [List.cons_append, List.nil_append]; rfl) ?_
                            refine wpFacts_val (by rfl) (fun w1 hL hd K hK => ?_) ?_
                            · go_simp
                              exact hK _ (Lat.refl _)
                            refine wpFacts_norm (by simp only [Act.put, List.setIfInBounds_toArray, List.set_cons_zero, List.set_cons_succ]; rfl) (by simp only [List.cons_append, List.nil_append]; rfl) ?_
                            refine wpFacts_val (by rfl) (fun w1 hL hd K hK => ?_) ?_
                            · obtain ⟨⟨d0, d1, d2⟩, d3, d4, d5, d6, d7⟩ := HD.out w1 hL
                              go_simp
                              exact hK _ (Lat.refl _)
                            refine wpFacts_norm (by simp only [Act.put, List.setIfInBounds_toArray, List.set_cons_zero, List.set_cons_succ]; rfl) (by simp only [List.cons_append, List.nil_append]; rfl) ?_
                            refine wpFacts_val (by rfl) (fun w1 hL hd K hK => ?_) ?_
                            · go_simp
                              exact hK _ (Lat.refl _)
                            refine wpFacts_norm (by simp only [Act.put, List.setIfInBounds_toArray, List.set_cons_zero, List.set_cons_succ]; rfl) (by simp only [List.cons_append, List.nil_append]; rfl) ?_
                            refine wpFacts_val (by rfl) (fun w1 hL hd K hK => ?_) ?_
                            · go_simp
                              exact hK _ (Lat.refl _)
                            refine wpFacts_norm (by simp only [Act.put, List.setIfInBounds_toArray, List.set_cons_zero, List.set_cons_succ]; rfl) (by simp only [List.cons_append, List.nil_append]; rfl) ?_
                            refine wpFacts_val (by rfl) (fun w1 hL hd K hK => ?_) ?_
                            · obtain ⟨⟨d0, d1, d2⟩, d3, d4, d5, d6, d7⟩ := HD.out w1 hL
                              go_simp
                              exact hK _ (Lat.refl _)
                            refine wpFacts_norm (by simp only [Act.put, List.setIfInBounds_toArray, List.set_cons_zero, List.set_cons_succ]; rfl) (by simp only [List.cons_append, List.nil_append]; rfl) ?_
                            refine wpFacts_val (by rfl) (fun w1 hL hd K hK => ?_) ?_
                            · go_simp
                              exact hK _ (Lat.refl _)
                            refine wpFacts_norm (by simp only [Act.put, List.setIfInBounds_toArray, List.set_cons_zero, List.set_cons_succ]; rfl) (by simp only [List.cons_append, List.nil_append]; rfl) ?_
                            refine wpFacts_val (by rfl) (fun w1 hL hd K hK => ?_) ?_
                            · go_simp
                              exact hK _ (Lat.refl _)
                            refine wpFacts_norm (by simp only [Act.put, List.setIfInBounds_toArray, List.set_cons_zero, List.set_cons_succ]; rfl) (by simp only [List.cons_append, List.nil_append]; rfl) ?_
                            refine wpFacts_val (by rfl) (fun w1 hL hd K hK => ?_) ?_
                            · go_simp
                              exact hK _ (Lat.refl _)
                            refine wpFacts_norm (by simp only [Act.put, List.setIfInBounds_toArray, List.set_cons_zero, List.set_cons_succ]; rfl) (by simp only [List.cons_append, List.nil_append]; rfl) ?_
                            refine wpFacts_val (by rfl) (fun w1 hL hd K hK => ?_) ?_
                            · obtain ⟨⟨d0, d1, d2⟩, d3, d4, d5, d6, d7⟩ := HD.out w1 hL
                              go_simp
                              exact hK _ (Lat.refl _)
                            refine wpFacts_norm (by simp only [Act.put, List.setIfInBounds_toArray, List.set_cons_zero, List.set_cons_succ]; rfl) (by simp only [List.cons_append, List.nil_append]; rfl) ?_
                            refine wpFacts_val (by rfl) (fun w1 hL hd K hK => ?_) ?_
                            · go_simp
                              refine Calls.mono (HHS.out w1 hL) ?_
                              rintro e w9 ⟨rfl, hb9⟩
                              exact hK _ hb9
                            refine wpFacts_norm (by simp only [Act.put, List.setIfInBounds_toArray, List.set_cons_zero, List.set_cons_succ]; rfl) (by simp only [List.cons_append, List.nil_append]; rfl) ?_
                            refine wpFacts_val (by rfl) (fun w1 hL hd K hK => ?_) ?_
                            · go_simp
                              exact hK _ (Lat.refl _)
                            refine wpFacts_norm (by simp only [Act.put, List.setIfInBounds_toArray, List.set_cons_zero, List.set_cons_succ]; rfl) (by simp only [List.cons_append, List.nil_append]; rfl) ?_
                            refine wpFacts_val (by rfl) (fun w1 hL hd K hK => ?_) ?_
                            · go_simp
                              exact hK _ (Lat.refl _)
                            refine wpFacts_norm (by simp only [Act.put, List.setIfInBounds_toArray, List.set_cons_zero, List.set_cons_succ]; rfl) (by simp only [List.cons_append, List.nil_append]; rfl) ?_
                            refine wpFacts_val (by rfl) (fun w1 hL hd K hK => ?_) ?_
                            · go_simp
                              exact hK _ (Lat.refl _)
                            refine wpFacts_norm (by simp only [Act.put, List.setIfInBounds_toArray, List.set_cons_zero, List.set_cons_succ]; rfl) (by simp only [List.cons_append, List.nil_append]; rfl) ?_
                            intro wz hLz haz
                            have hBz : Hid (Below w5.heap.size w5 wz) := hBq.out.trans (Below.mono hLz.of_drew hz5)
                            have hRz : Hid (wz.heap[R]? = some (.cells #[.int .i64 (l : Int), .slice (some ⟨xb, xof, none⟩) rs.length yc] 43 (0, 0))) := (hLz.of_drew.block _ (Array.getElem?_eq_some_iff.1 hRq.out).1).trans hRq.out
                            clear haz hLz hBq hRq HD HHF HHS HCA
                            go_wp2_with fail
                            go_roundw
                            case rel => exact ⟨k + 1, by omega, by go_num, hBz, hRz⟩
                            case measure => simp [intOf]; omega
              · obtain rfl : k = rs.length := by omega
                have hki : ¬ (rs.length : Int) < (rs.length : Int) := by omega
                go_wp2_with fail
                go_roundw
                case rel => exact ⟨i + 1, by omega, by go_num, hB⟩
                case measure => simp [intOf]; omega
          · obtain rfl : i = g.rules.length := by omega
            have hii : ¬ (g.rules.length : Int) < (g.rules.length : Int) := by omega
            have HBf : Hid (Below w.heap.size w wr) := HBw
            clear HBw hz5
            go_wp2_with (go_at_call 8; refine Calls.mono (fowakes_any _) ?_; rintro e w3 ⟨rfl, hb3⟩)
            go_ret
            exact ⟨rfl, HBf.out.trans (hb3.mono HBf.out.size)⟩

theorem followHolds_walk (g : Gr.Gm) (A : GA) (w : World) (h : GmAt w.heap.size w g A) (hr : ∀ r ∈ g.rules, r.2.length ≤ maxLen ∧ rlWf r) :
    Calls Tryz.prog 4 #[.agg (gmCells g A)] w fun e w' => e = .returned (.bool true) ∧ Below w.heap.size w w' := by
  have hm : ∀ r ∈ g.rules, r.2.length ≤ maxLen := fun r h => (hr r h).1
  cases hl : Gr.large g
  · cases hg : Gr.good g
    · exact followHolds_out g A w h hm (.inr ⟨hl, .inl hg⟩)
    · cases hs : Fo.light g
      · exact followHolds_out g A w h hm (.inr ⟨hl, .inr ⟨hg, hs⟩⟩)
      · exact followHolds_in g A w h hm hl hg hs
  · exact followHolds_out g A w h hm (.inl hl)
end Go.Proofs.YtdocbgfpnaiijaaGreat
