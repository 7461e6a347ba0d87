/-
  Layer 4 (show): a rule's line, of any grammar and number.
-/
import Derived.Test.YtnphfhoknnnciaaShCaughts
import Derived.Test.YtnphfhoknnnciaaGrMathB
import Derived.Test.YtnphfhoknnnciaaGrQuiet
namespace Go.Proofs.Ytnphfhoknnnciaa.Sh
open Go.Proofs.Ytnphfhoknnnciaa.Gr
/-- a rule's line: an error's number, the text -/
def line (g : Gm) (i : Int) : Int × ByteArray :=
  if good g = false then (16, ⟨#[]⟩) else if 0 ≤ i ∧ i < (g.rules.length : Int) then (0, ruleT g (g.rules.getD i.toNat (0, []))) else (1, ⟨#[]⟩)

theorem name_size {g : Gm} (h : good g = true) (s : Int) : (name g s).1.size ≤ 16 ∧ (∀ x ∈ g.terms, x.size ≤ 16) ∧ ∀ x ∈ g.names, x.size ≤ 16 := by
  obtain ⟨_, p2, p3, _⟩ := good_parts h
  have h2 : ∀ x : ByteArray, x.data.toList.length = x.size := fun x => by simp
  have ht : ∀ x ∈ g.terms, x.size ≤ 16 := fun x hx => by
    obtain ⟨k, hk, rfl⟩ := List.getElem_of_mem hx
    have := (each_get p3 k hk).1
    simp only [Lx.isTerm, Bool.and_eq_true, decide_eq_true_eq] at this
    have h1 := this.1.2
    rw [h2] at h1
    exact h1
  have hn : ∀ x ∈ g.names, x.size ≤ 16 := fun x hx => by
    obtain ⟨k, hk, rfl⟩ := List.getElem_of_mem hx
    have := (each_get p2 k hk).1
    simp only [Lx.isName, Bool.and_eq_true, decide_eq_true_eq] at this
    have h1 := this.1.1.2
    rw [h2] at h1
    exact h1
  refine ⟨?_, ht, hn⟩
  have z : (⟨#[]⟩ : ByteArray).size = 0 := rfl
  have gd : ∀ (l : List ByteArray) (k : Nat), (∀ x ∈ l, x.size ≤ 16) → (l.getD k ⟨#[]⟩).size ≤ 16 := fun l k hl => by
    rw [List.getD_eq_getElem?_getD]
    cases he : l[k]? with
    | none => simp [z]
    | some y => exact hl y (List.mem_of_getElem? he)
  unfold name
  split
  · exact gd _ _ ht
  · split
    · exact gd _ _ hn
    · simp [z]
end Go.Proofs.Ytnphfhoknnnciaa.Sh

namespace Go.Proofs.Ytnphfhoknnnciaa
open Go.RowKit

set_option maxRecDepth 100000 in
set_option maxHeartbeats 3200000 in
theorem lineOf_is (g : Gr.Gm) (A : GA) (i n : Int) (s : ByteArray) (w : World) (hm : ∀ x ∈ g.rules, x.2.length ≤ maxLen) (h : GmAt w.heap.size w g A) (hr : Sh.line g i = (n, s)) :
    Calls Try.prog 49 #[.agg (gmCells g A), .int .i64 i] w fun e w' => Below w.heap.size w w' ∧ ((e = .returned (.string s) ∧ n = 0) ∨ (e = thrownE n ∧ s = ⟨#[]⟩)) := by
  obtain ⟨ta, tc, na, nc, ra, rc⟩ := A
  have HG : Hid (GmAt w.heap.size w g ⟨ta, tc, na, nc, ra, rc⟩) := h
  have hbW : Hid (Below w.heap.size w (w.alloc (Obj.cells #[.slice ta g.terms.length tc, .slice na g.names.length nc, .slice ra g.rules.length rc] 25))) := (Below.refl _ w).alloc (Nat.le_refl _) _
  have b0 : Hid ((w.alloc (Obj.cells #[.slice ta g.terms.length tc, .slice na g.names.length nc, .slice ra g.rules.length rc] 25)).heap[w.heap.size]? = some (.cells #[.slice ta g.terms.length tc, .slice na g.names.length nc, .slice ra g.rules.length rc] 25 (0, 0))) := heap_alloc_new w _
  have hWs : Hid ((w.alloc (Obj.cells #[.slice ta g.terms.length tc, .slice na g.names.length nc, .slice ra g.rules.length rc] 25)).heap.size = w.heap.size + 1) := by show _ = _; simp
  have HGD : Hid (∀ (r : Bool) (W : World), Below w.heap.size w W → Gr.good g = r → Calls Try.prog 16 #[.agg (gmCells g ⟨ta, tc, na, nc, ra, rc⟩)] W fun e w' => e = .returned (.bool r) ∧ Below W.heap.size W w') := fun r W hW hl => good_is r g _ W hm (h.later hW).size hl
  have HR : Hid (Sh.line g i = (n, s)) := hr
  cases hg : Gr.good g
  · have E : Hid (n = 16 ∧ s = ⟨#[]⟩) := by
      have := HR.out
      unfold Sh.line at this
      rw [if_pos hg] at this
      cases this; exact ⟨rfl, rfl⟩
    obtain ⟨rfl, rfl⟩ := E.out
    have HG1 : Hid (∀ (W : World), Below w.heap.size w W → _) := fun W hW => HGD.out false W hW hg
    simp only [gmCells] at HG1 ⊢
    clear h hr hm HGD hg E
    go_enter Try.func49, Try.ntmps49
    go_wp2_with fail
    generalize (w.alloc (Obj.cells #[.slice ta g.terms.length tc, .slice na g.names.length nc, .slice ra g.rules.length rc] 25)) = W at *
    refine (HG1.out _ hbW.out).mono ?_
    rintro e w1 ⟨rfl, hb1⟩
    go_wp2_with (go_at_call 70; refine (throwUnless_no _ _).mono ?_; rintro e w2 ⟨rfl, e2⟩; subst w2; unfold thrownE)
    exact ⟨rfl, hbW.out.trans (hb1.mono hbW.out.size), .inr ⟨rfl, by trivial⟩⟩
  · have HG1 : Hid (∀ (W : World), Below w.heap.size w W → _) := fun W hW => HGD.out true W hW hg
    have hsz := Sh.name_size hg
    have hs0 := of_decide_eq_true (Gr.good_parts hg).1
    have HRT : Hid (∀ (yl : Int) (yr : List Int) (yo : Option Addr) (yc : Nat) (W : World), Below w.heap.size w W → yr.length ≤ 4000 → IntsAt w.heap.size w yo yr → Calls Try.prog 72 #[.agg (gmCells g ⟨ta, tc, na, nc, ra, rc⟩), .agg #[.int .i64 yl, .slice yo yr.length yc]] W fun e w' => e = .returned (.string (Sh.ruleT g (yl, yr))) ∧ Below W.heap.size W w') :=
      fun yl yr yo yc W hW h4 hy => ruleText_is g _ yl yr yo yc W ⟨by omega, by omega⟩ (fun x hx => by have := (hsz 0).2.1 x hx; omega) (fun x hx => by have := (hsz 0).2.2 x hx; omega) (fun q => by have := (hsz q).1; omega) h4 (h.later hW).size (hy.later hW).size
    have H8 : Hid (∀ x ∈ g.rules, x.2.length ≤ 8) := fits_right (Gr.good_parts hg).2.2.2.1
    simp only [gmCells] at HG1 HRT ⊢
    clear h hr hm HGD
    go_enter Try.func49, Try.ntmps49
    go_wp2_with fail
    generalize (w.alloc (Obj.cells #[.slice ta g.terms.length tc, .slice na g.names.length nc, .slice ra g.rules.length rc] 25)) = W at *
    refine (HG1.out _ hbW.out).mono ?_
    rintro e w1 ⟨rfl, hb1⟩
    obtain ⟨g0, g1, g2, _⟩ := cells_three_z ((hb1.block _ (by rw [hWs.out]; omega)).trans b0.out)
    have HB1 : Hid (Below w.heap.size w w1) := hbW.out.trans (hb1.mono hbW.out.size)
    clear hb1 HG1
    by_cases hin : 0 ≤ i ∧ i < (g.rules.length : Int)
    · obtain ⟨k, rfl⟩ : ∃ k : Nat, i = (k : Int) := ⟨i.toNat, by omega⟩
      have hk : k < g.rules.length := by omega
      have hki : (k : Int) < (g.rules.length : Int) := by omega
      have E : Hid (n = 0 ∧ s = Sh.ruleT g g.rules[k]) := by
        have := HR.out
        unfold Sh.line at this
        rw [if_neg (by rw [hg]; simp), if_pos hin] at this
        cases this; exact ⟨rfl, by rw [Int.toNat_natCast, List.getD_eq_getElem?_getD, List.getElem?_eq_getElem hk]; rfl⟩
      obtain ⟨rb, ro, yo, yc, hra, _, _, y0, y1, yI, _⟩ := HG.out.rules k hk
      simp only at hra
      subst hra
      have h8k := H8.out _ (List.getElem_mem hk)
      have HY : Hid (IntsAt w.heap.size w yo g.rules[k].2) := yI
      generalize g.rules[k] = y at *
      obtain ⟨yl, yr⟩ := y
      simp only at y0 y1 HY h8k
      replace y0 := cell_later HB1.out y0
      replace y1 := cell_later HB1.out y1
      obtain ⟨rfl, rfl⟩ := E.out
      have HR1 : Hid (∀ (W : World), Below w.heap.size w W → _) := fun W hW => HRT.out yl yr yo yc W hW (by omega) HY.out
      clear HRT HR E hg hin yI
      go_wp2_with (first | (go_at_call 70; refine (throwUnless_ok _ _).mono ?_; rintro e w2 ⟨rfl, e2⟩; subst w2))
      have G0 : ∀ p : Later w1, p.w.cell? ⟨w.heap.size, 0, none⟩ = some (.slice ta g.terms.length tc) := Later.cell g0
      have G1 : ∀ p : Later w1, p.w.cell? ⟨w.heap.size, 1, none⟩ = some (.slice na g.names.length nc) := Later.cell g1
      have G2 : ∀ p : Later w1, p.w.cell? ⟨w.heap.size, 2, none⟩ = some (.slice (some ⟨rb, ro, none⟩) g.rules.length rc) := Later.cell g2
      have Y0 : ∀ p : Later w1, p.w.cell? ⟨rb, ro + k * 2, none⟩ = some (.int .i64 yl) := Later.cell y0
      have Y1 : ∀ p : Later w1, p.w.cell? ⟨rb, ro + k * 2 + 1, none⟩ = some (.slice yo yr.length yc) := Later.cell y1
      refine wp_region_later (by kernel_rfl) (by kernel_rfl) ?_
      repeat (quiet_step (first | (go_at_call 72; exact Calls.later_of (HR1.out _ (HB1.out.trans (Below.mono (Later.h _) HB1.out.size))))))
      refine wpQuiet_nil ?_
      intro _ hw'
      obtain ⟨pq, hw''⟩ := hw'
      subst hw''
      go_wp2_with fail
      go_ret
      exact ⟨HB1.out.trans (pq.h.mono HB1.out.size), .inl rfl⟩
    · have E : Hid (n = 1 ∧ s = ⟨#[]⟩) := by
        have := HR.out
        unfold Sh.line at this
        rw [if_neg (by rw [hg]; simp), if_neg hin] at this
        cases this; exact ⟨rfl, rfl⟩
      obtain ⟨rfl, rfl⟩ := E.out
      clear HRT HR E hg
      by_cases hi0 : 0 ≤ i
      · have hge : decide (i < (g.rules.length : Int)) = false := decide_eq_false (fun h => hin ⟨hi0, h⟩)
        clear hin
        go_wp2_with (go_at_call 70; fail)
        refine (throwUnless_ok _ _).mono ?_
        rintro e w2 ⟨rfl, e2⟩
        subst w2
        go_wp2_with (go_at_call 70; fail)
        refine (throwUnless_no _ _).mono ?_
        rintro e w2 ⟨rfl, e2⟩
        subst w2
        unfold thrownE
        go_wp2_with fail
        exact ⟨rfl, HB1.out, rfl⟩
      · have hge : decide (0 ≤ i) = false := decide_eq_false hi0
        clear hin
        go_wp2_with (go_at_call 70; fail)
        refine (throwUnless_ok _ _).mono ?_
        rintro e w2 ⟨rfl, e2⟩
        subst w2
        go_wp2_with (go_at_call 70; fail)
        refine (throwUnless_no _ _).mono ?_
        rintro e w2 ⟨rfl, e2⟩
        subst w2
        unfold thrownE
        go_wp2_with fail
        exact ⟨rfl, HB1.out, rfl⟩
end Go.Proofs.Ytnphfhoknnnciaa
