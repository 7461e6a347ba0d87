/-
  The law GrammarNames, walked: it returns true, of every grammar, every two numbers.
-/
import Derived.Test.YtnbniaijholimaaGrWakes
import Derived.Test.YtnbniaijholimaaGrLarge
import Derived.Test.YtnbniaijholimaaGrOpen
import Derived.Test.YtnbniaijholimaaGrMath4
import Derived.Deep.DeepCutAuto
import Derived.Test.YtnbniaijholimaaGrQuiet
namespace Go.Proofs.Ytnbniaijholimaa
open Go.RowKit

set_option maxRecDepth 100000 in
set_option maxHeartbeats 20000000 in
theorem grammarNames_walk (g : Gr.Gm) (A : GA) (a b : Int) (w : World) (h : GmAt w.heap.size w g A) (hr : ∀ r ∈ g.rules, r.2.length ≤ maxLen ∧ rlWf r) :
    Calls Try.prog 7 #[.agg (gmCells g A), .agg #[.int .i64 a, .int .i64 b]] w fun e w' => e = .returned (.bool true) ∧ Below w.heap.size w w' := by
  obtain ⟨ta, tc, na, nc, ra, rc⟩ := A
  have hm : ∀ r ∈ g.rules, r.2.length ≤ maxLen := fun r h => (hr r h).1
  have HG : Hid (GmAt w.heap.size w g ⟨ta, tc, na, nc, ra, rc⟩) := h
  have hbW : Hid (Below w.heap.size w ((w.alloc (Obj.cells #[.slice ta g.terms.length tc, .slice na g.names.length nc, .slice ra g.rules.length rc] 38)).alloc (Obj.cells #[.int .i64 a, .int .i64 b] 58))) := ((Below.refl _ w).alloc (Nat.le_refl _) _).alloc (by simp) _
  have b0 : Hid (((w.alloc (Obj.cells #[.slice ta g.terms.length tc, .slice na g.names.length nc, .slice ra g.rules.length rc] 38)).alloc (Obj.cells #[.int .i64 a, .int .i64 b] 58)).heap[w.heap.size]? = some (.cells #[.slice ta g.terms.length tc, .slice na g.names.length nc, .slice ra g.rules.length rc] 38 (0, 0))) := by
    show _ = _; rw [Below.heap_alloc _ _ _ (by simp)]; exact heap_alloc_new w _
  have b1 : Hid (((w.alloc (Obj.cells #[.slice ta g.terms.length tc, .slice na g.names.length nc, .slice ra g.rules.length rc] 38)).alloc (Obj.cells #[.int .i64 a, .int .i64 b] 58)).heap[w.heap.size + 1]? = some (.cells #[.int .i64 a, .int .i64 b] 58 (0, 0))) := by
    show _ = _
    have := heap_alloc_new (w.alloc (Obj.cells #[.slice ta g.terms.length tc, .slice na g.names.length nc, .slice ra g.rules.length rc] 38)) (Obj.cells #[.int .i64 a, .int .i64 b] 58)
    simpa using this
  have hWs : Hid (((w.alloc (Obj.cells #[.slice ta g.terms.length tc, .slice na g.names.length nc, .slice ra g.rules.length rc] 38)).alloc (Obj.cells #[.int .i64 a, .int .i64 b] 58)).heap.size = w.heap.size + 2) := by show _ = _; simp
  have HLG : Hid (∀ (r : Bool) (W : World), Below w.heap.size w W → Gr.large g = r → Calls Try.prog 12 #[.agg (gmCells g ⟨ta, tc, na, nc, ra, rc⟩)] W fun e w' => e = .returned (.bool r) ∧ Below W.heap.size W w') := fun r W hW hl => large_is r g _ W hm (h.later hW).size hl
  have HGD : Hid (∀ (r : Bool) (W : World), Below w.heap.size w W → Gr.good g = r → Calls Try.prog 20 #[.agg (gmCells g ⟨ta, tc, na, nc, ra, rc⟩)] W fun e w' => e = .returned (.bool r) ∧ Below W.heap.size W w') := fun r W hW hl => good_is r g _ W hm (h.later hW).size hl
  simp only [gmCells] at HLG HGD ⊢
  clear h hr hm
  cases hl : Gr.large g
  · have hno := Gr.large_no hl
    have HNM : Hid (∀ (x : ByteArray) (ok : Bool) (s : Int) (W : World), Below w.heap.size w W → Gr.name g s = (x, ok) → Calls Try.prog 17 #[.agg (gmCells g ⟨ta, tc, na, nc, ra, rc⟩), .int .i64 s] W fun e w' => e = .returned (.tuple #[.string x, .bool ok]) ∧ Below W.heap.size W w') :=
      fun x ok s W hW hx => name_is x ok g _ s W ⟨hno.1, hno.2.1⟩ (fun s hs => by have := hno.2.2.2.1 s hs; omega) (fun s hs => by have := hno.2.2.2.2.1 s hs; omega) (HG.out.later hW).size hx
    have HTM : Hid (∀ (r : Bool) (s : Int) (W : World), Gr.isT g s = r → Calls Try.prog 22 #[.agg (gmCells g ⟨ta, tc, na, nc, ra, rc⟩), .int .i64 s] W fun e w' => e = .returned (.bool r) ∧ Below W.heap.size W w') := fun r s W hx => term_is r g _ s W hx
    simp only [gmCells] at HNM HTM
    have HL1 : Hid (∀ (W : World), Below w.heap.size w W → _) := fun W hW => HLG.out false W hW hl
    have l1 := hno.1
    have l2 := hno.2.1
    clear hno HLG hl HG
    cases hg : Gr.good g
    · have HG1 : Hid (∀ (W : World), Below w.heap.size w W → _) := fun W hW => HGD.out false W hW hg
      clear HGD hg HNM HTM
      go_enter Try.func7, Try.ntmps7
      go_wp2_with fail
      generalize ((w.alloc (Obj.cells #[.slice ta g.terms.length tc, .slice na g.names.length nc, .slice ra g.rules.length rc] 38)).alloc (Obj.cells #[.int .i64 a, .int .i64 b] 58)) = W at *
      refine (HL1.out _ hbW.out).mono ?_
      rintro e w1 ⟨rfl, hb1⟩
      obtain ⟨g0, g1, g2, _⟩ := cells_three_z ((hb1.block _ (by rw [hWs.out]; omega)).trans b0.out)
      have HB1 : Hid (Below w.heap.size w w1) := hbW.out.trans (hb1.mono hbW.out.size)
      go_wp2_with (go_at_call 20; fail)
      refine (HG1.out _ HB1.out).mono ?_
      rintro e w2 ⟨rfl, hb2⟩
      have HB2 : Hid (Below w.heap.size w w2) := HB1.out.trans (hb2.mono HB1.out.size)
      go_wp2_with (first | (go_at_call 13; refine (gwakes_any _).mono ?_; rintro e w3 ⟨rfl, hb3⟩))
      go_ret
      exact ⟨rfl, HB2.out.trans (hb3.mono HB2.out.size)⟩
    · have HG1 : Hid (∀ (W : World), Below w.heap.size w W → _) := fun W hW => HGD.out true W hW hg
      have HGood : Hid (Gr.good g = true) := hg
      clear HGD hg
      go_enter Try.func7, Try.ntmps7
      go_wp2_with fail
      generalize ((w.alloc (Obj.cells #[.slice ta g.terms.length tc, .slice na g.names.length nc, .slice ra g.rules.length rc] 38)).alloc (Obj.cells #[.int .i64 a, .int .i64 b] 58)) = W at *
      refine (HL1.out _ hbW.out).mono ?_
      rintro e w1 ⟨rfl, hb1⟩
      obtain ⟨g0, g1, g2, _⟩ := cells_three_z ((hb1.block _ (by rw [hWs.out]; omega)).trans b0.out)
      have HB1 : Hid (Below w.heap.size w w1) := hbW.out.trans (hb1.mono hbW.out.size)
      go_wp2_with (go_at_call 20; fail)
      refine (HG1.out _ HB1.out).mono ?_
      rintro e w2 ⟨rfl, hb2⟩
      have HB2 : Hid (Below W.heap.size W w2) := hb1.trans (hb2.mono hb1.size)
      clear g0 g1 g2 hb1 hb2 HB1 HG1 HL1
      obtain ⟨g0, g1, g2, _⟩ := cells_three_z ((HB2.out.block _ (by rw [hWs.out]; omega)).trans b0.out)
      go_wp2_with fail
      clear g0 g1 g2
      go_loopw [6] (fun i wr => ∃ k : Nat, k ≤ 2 ∧ i = .int .i64 k ∧ Hid (Below W.heap.size W wr)) (fun i _ => 2 - (intOf i).toNat)
      case atStart => exact ⟨0, by omega, rfl, HB2⟩
      case round =>
        obtain ⟨k, hk, rfl, hb⟩ := hrel
        clear HB2
        obtain ⟨g0, g1, g2, _⟩ := cells_three_z ((hb.out.block _ (by rw [hWs.out]; omega)).trans b0.out)
        obtain ⟨p0, p1, _⟩ := cells_two_z ((hb.out.block _ (by rw [hWs.out]; omega)).trans b1.out)
        have hszz := hb.out.size
        rw [hWs.out] at hszz
        by_cases hlt : k < 2
        · obtain ⟨s, hs⟩ : ∃ s : Int, wr.cell? ⟨w.heap.size + 1, k, none⟩ = some (.int .i64 s) := by
            match k, hlt with
            | 0, _ => exact ⟨_, p0⟩
            | 1, _ => exact ⟨_, p1⟩
          have hki : (k : Int) < 2 := by omega
          clear p0 p1
          obtain ⟨x, ok, hx⟩ : ∃ x ok, Gr.name g s = (x, ok) := ⟨_, _, rfl⟩
          obtain ⟨e1, e2, e3⟩ := Gr.name_ok g s
          rw [hx] at e1 e2 e3
          simp only at e1 e2 e3
          have E1 : Hid (ok = (decide (0 ≤ s) && decide (s < (g.terms.length : Int) + g.names.length))) := e1
          have E2 : Hid (ok = false → x = ⟨#[]⟩) := e2
          have E3 : Hid (Gr.isT g s = true → ok = true) := e3
          have HNx : Hid (∀ (W' : World), Below w.heap.size w W' → _) := fun W' hW' => HNM.out x ok s W' hW' hx
          have hbr : Hid (Below w.heap.size w wr) := hbW.out.trans (hb.out.mono hbW.out.size)
          clear e1 e2 e3 hx
          have hz0 : w.heap.size < wr.heap.size := by omega
          have hz1 : w.heap.size + 1 < wr.heap.size := by omega
          have G0 : ∀ p : Later wr, p.w.cell? ⟨w.heap.size, 0, none⟩ = some (.slice ta g.terms.length tc) := Later.cell g0
          have G1 : ∀ p : Later wr, p.w.cell? ⟨w.heap.size, 1, none⟩ = some (.slice na g.names.length nc) := Later.cell g1
          have G2 : ∀ p : Later wr, p.w.cell? ⟨w.heap.size, 2, none⟩ = some (.slice ra g.rules.length rc) := Later.cell g2
          have G3 : ∀ p : Later wr, p.w.cell? ⟨w.heap.size + 1, k, none⟩ = some (.int .i64 s) := Later.cell hs
          go_upto_region 7 with fail
          go_cut [7, 8] (fun u v wc => u = .string x ∧ v = .bool ok ∧ Below W.heap.size W wc)
          case first =>
            refine wp_region_later (by kernel_rfl) (by kernel_rfl) ?_
            repeat (quiet_step (first | (go_at_call 17; exact Calls.later_of (HNx.out _ (hbr.out.trans (Below.mono (Later.h _) hbr.out.size))))))
            refine wpQuiet_nil ?_
            intro _ hw'
            obtain ⟨pq, hw''⟩ := hw'
            subst hw''
            go_wp2_with fail
            go_meet
            case rel => exact ⟨rfl, rfl, hb.out.trans (pq.h.mono hb.out.size)⟩
          case rest =>
            obtain ⟨rfl, rfl, hbc⟩ := hcut
            have HBc : Hid (Below W.heap.size W wc) := hbc
            have hsc : wc.cell? ⟨w.heap.size + 1, k, none⟩ = some (.int .i64 s) := by
              have q := (hb.out.block (w.heap.size + 1) (by rw [hWs.out]; omega)).trans (hbc.block (w.heap.size + 1) (by rw [hWs.out]; omega)).symm
              have : wc.cell? ⟨w.heap.size + 1, k, none⟩ = wr.cell? ⟨w.heap.size + 1, k, none⟩ := by simp only [World.cell?, q]
              rw [this]; exact hs
            clear hs g0 g1 g2 hbc HNx hz0 hz1 G0 G1 G2 G3
            obtain ⟨g0, g1, g2, _⟩ := cells_three_z ((HBc.out.block _ (by rw [hWs.out]; omega)).trans b0.out)
            have hzc := HBc.out.size
            rw [hWs.out] at hzc
            have hz0 : w.heap.size < wc.heap.size := by omega
            have hz1 : w.heap.size + 1 < wc.heap.size := by omega
            have G0 : ∀ p : Later wc, p.w.cell? ⟨w.heap.size, 0, none⟩ = some (.slice ta g.terms.length tc) := Later.cell g0
            have G1 : ∀ p : Later wc, p.w.cell? ⟨w.heap.size, 1, none⟩ = some (.slice na g.names.length nc) := Later.cell g1
            have G2 : ∀ p : Later wc, p.w.cell? ⟨w.heap.size, 2, none⟩ = some (.slice ra g.rules.length rc) := Later.cell g2
            have G3 : ∀ p : Later wc, p.w.cell? ⟨w.heap.size + 1, k, none⟩ = some (.int .i64 s) := Later.cell hsc
            go_upto_region 8 with fail
            go_cut [71] (fun v wd => v = .bool false ∧ Below W.heap.size W wd)
            case first =>
              have hk0 : (0 : Int) ≤ (k : Int) := by omega
              cases ht : Gr.isT g s
              · have HT1 : Hid (∀ (W' : World), _) := fun W' => HTM.out false s W' ht
                clear ht E3
                by_cases h1 : 0 ≤ s
                · by_cases h2 : s < (g.terms.length : Int) + g.names.length
                  · have e : ok = true := by rw [E1.out]; simp [h1, h2]
                    subst e
                    clear E1 E2 HTM HNM
                    refine wp_region_later (by kernel_rfl) (by kernel_rfl) ?_
                    repeat (quiet_step (first | (go_at_call 22; exact Calls.later_of (HT1.out _))))
                    refine wpQuiet_nil ?_
                    intro _ hw'
                    obtain ⟨pq, hw''⟩ := hw'
                    subst hw''
                    go_wp2_with fail
                    go_meet
                    case rel => exact ⟨rfl, HBc.out.trans (pq.h.mono HBc.out.size)⟩
                  · have e : ok = false := by rw [E1.out]; simp [h2]
                    subst e
                    have e := E2.out rfl
                    subst e
                    have h2d : decide (s < (g.terms.length : Int) + g.names.length) = false := decide_eq_false h2
                    clear h2
                    clear E1 E2 HTM HNM
                    refine wp_region_later (by kernel_rfl) (by kernel_rfl) ?_
                    repeat (quiet_step (first | (go_at_call 22; exact Calls.later_of (HT1.out _))))
                    refine wpQuiet_nil ?_
                    intro _ hw'
                    obtain ⟨pq, hw''⟩ := hw'
                    subst hw''
                    go_wp2_with fail
                    go_meet
                    case rel => exact ⟨rfl, HBc.out.trans (pq.h.mono HBc.out.size)⟩
                · have e : ok = false := by rw [E1.out]; simp [h1]
                  subst e
                  have e := E2.out rfl
                  subst e
                  have h1d : decide (0 ≤ s) = false := decide_eq_false h1
                  clear h1
                  clear E1 E2 HTM HNM
                  refine wp_region_later (by kernel_rfl) (by kernel_rfl) ?_
                  repeat (quiet_step (first | (go_at_call 22; exact Calls.later_of (HT1.out _))))
                  refine wpQuiet_nil ?_
                  intro _ hw'
                  obtain ⟨pq, hw''⟩ := hw'
                  subst hw''
                  go_wp2_with fail
                  go_meet
                  case rel => exact ⟨rfl, HBc.out.trans (pq.h.mono HBc.out.size)⟩
              · have HT1 : Hid (∀ (W' : World), _) := fun W' => HTM.out true s W' ht
                have e := E3.out ht
                subst e
                have h12 := E1.out.symm
                simp only [Bool.and_eq_true, decide_eq_true_eq] at h12
                have h1 := h12.1
                have h2 := h12.2
                clear ht E3 h12
                clear E1 E2 HTM HNM
                refine wp_region_later (by kernel_rfl) (by kernel_rfl) ?_
                repeat (quiet_step (first | (go_at_call 22; exact Calls.later_of (HT1.out _))))
                refine wpQuiet_nil ?_
                intro _ hw'
                obtain ⟨pq, hw''⟩ := hw'
                subst hw''
                go_wp2_with fail
                go_meet
                case rel => exact ⟨rfl, HBc.out.trans (pq.h.mono HBc.out.size)⟩
            case rest =>
              obtain ⟨rfl, hbd⟩ := hcut
              have HBd : Hid (Below W.heap.size W wc) := hbd
              clear hbd
              go_wp2_with fail
              go_roundw
              case rel => exact ⟨k + 1, by omega, by go_num, HBd⟩
              case measure => simp [intOf]; omega
        · have hkd : decide ((k : Int) < 2) = false := decide_eq_false (by omega)
          clear hlt
          obtain ⟨xa, oka, hxa⟩ : ∃ x ok, Gr.name g a = (x, ok) := ⟨_, _, rfl⟩
          obtain ⟨xb, okb, hxb⟩ : ∃ x ok, Gr.name g b = (x, ok) := ⟨_, _, rfl⟩
          have HNa : Hid (∀ (W' : World), Below w.heap.size w W' → _) := fun W' hW' => HNM.out xa oka a W' hW' hxa
          have HNb : Hid (∀ (W' : World), Below w.heap.size w W' → _) := fun W' hW' => HNM.out xb okb b W' hW' hxb
          have HINJ : Hid (oka = true → okb = true → a ≠ b → xa = xb → (Gr.isT g a == Gr.isT g b) = false) := fun h1 h2 h3 h4 => Gr.name_inj HGood.out (by rw [hxa, h1]) (by rw [hxb, h2, ← h4]) h3
          clear hxa hxb HNM
          have hz0 : w.heap.size < wr.heap.size := by omega
          have hz1 : w.heap.size + 1 < wr.heap.size := by omega
          have hbr : Hid (Below w.heap.size w wr) := hbW.out.trans (hb.out.mono hbW.out.size)
          go_wp2_with (go_at_call 17; fail)
          refine (HNa.out _ hbr.out).mono ?_
          rintro e w3 ⟨rfl, hb3⟩
          replace g0 := cell_later hb3 g0
          replace g1 := cell_later hb3 g1
          replace g2 := cell_later hb3 g2
          replace p0 := cell_later hb3 p0
          replace p1 := cell_later hb3 p1
          have HB3 : Hid (Below w.heap.size w w3) := hbr.out.trans (hb3.mono hbr.out.size)
          clear hb3 hbr hb HNa
          go_wp2_with (go_at_call 17; fail)
          refine (HNb.out _ HB3.out).mono ?_
          rintro e w4 ⟨rfl, hb4⟩
          replace g0 := cell_later hb4 g0
          replace g1 := cell_later hb4 g1
          replace g2 := cell_later hb4 g2
          replace p0 := cell_later hb4 p0
          replace p1 := cell_later hb4 p1
          have HB4 : Hid (Below w.heap.size w w4) := HB3.out.trans (hb4.mono HB3.out.size)
          clear hb4 HB3 HNb
          have G0 : ∀ p : Later w4, p.w.cell? ⟨w.heap.size, 0, none⟩ = some (.slice ta g.terms.length tc) := Later.cell g0
          have G1 : ∀ p : Later w4, p.w.cell? ⟨w.heap.size, 1, none⟩ = some (.slice na g.names.length nc) := Later.cell g1
          have G2 : ∀ p : Later w4, p.w.cell? ⟨w.heap.size, 2, none⟩ = some (.slice ra g.rules.length rc) := Later.cell g2
          have G3 : ∀ p : Later w4, p.w.cell? ⟨w.heap.size + 1, 0, none⟩ = some (.int .i64 a) := Later.cell p0
          have G4 : ∀ p : Later w4, p.w.cell? ⟨w.heap.size + 1, 1, none⟩ = some (.int .i64 b) := Later.cell p1
          go_upto_region 12 with fail
          go_cut [112] (fun v wd => v = .bool false ∧ Below w.heap.size w wd)
          case first =>
            cases oka
            · clear HINJ HTM
              go_quiet (fail)
              go_wp2_with fail
              go_meet
              case rel => exact ⟨rfl, below_drewN HB4.out _⟩
            · cases okb
              · clear HINJ HTM
                go_quiet (fail)
                go_wp2_with fail
                go_meet
                case rel => exact ⟨rfl, below_drewN HB4.out _⟩
              · by_cases hab : a = b
                · have hne : (a != b) = false := by simp [hab]
                  clear HINJ HTM hab
                  go_quiet (fail)
                  go_wp2_with fail
                  go_meet
                  case rel => exact ⟨rfl, below_drewN HB4.out _⟩
                · have hne : (a != b) = true := by simp [hab]
                  by_cases hxx : xa = xb
                  · have hT := HINJ.out rfl rfl hab hxx
                    subst hxx
                    have HT1 : Hid (∀ (s : Int) (W' : World), _) := fun s W' => HTM.out _ s W' rfl
                    clear HINJ HTM hab
                    refine wp_region_later (by kernel_rfl) (by kernel_rfl) ?_
                    repeat (quiet_step (first | (go_at_call 22; exact Calls.later_of (HT1.out _ _))))
                    refine wpQuiet_nil ?_
                    intro _ hw'
                    obtain ⟨pq, hw''⟩ := hw'
                    subst hw''
                    go_wp2_with fail
                    go_meet
                    case rel => exact ⟨rfl, HB4.out.trans (pq.h.mono HB4.out.size)⟩
                  · have hxn := str_ne hxx
                    clear HINJ HTM hab hxx
                    go_quiet (fail)
                    go_wp2_with fail
                    go_meet
                    case rel => exact ⟨rfl, below_drewN HB4.out _⟩
          case rest =>
            obtain ⟨rfl, hbd⟩ := hcut
            have HBd : Hid (Below w.heap.size w wc) := hbd
            clear hbd
            go_wp2_with (first | (go_at_call 13; refine (gwakes_any _).mono ?_; rintro e w5 ⟨rfl, hb5⟩))
            go_ret
            exact ⟨rfl, HBd.out.trans (hb5.mono HBd.out.size)⟩
  · have HL1 : Hid (∀ (W : World), Below w.heap.size w W → _) := fun W hW => HLG.out true W hW hl
    clear HLG hl HG HGD
    go_enter Try.func7, Try.ntmps7
    go_wp2_with fail
    generalize ((w.alloc (Obj.cells #[.slice ta g.terms.length tc, .slice na g.names.length nc, .slice ra g.rules.length rc] 38)).alloc (Obj.cells #[.int .i64 a, .int .i64 b] 58)) = W at *
    refine (HL1.out _ hbW.out).mono ?_
    rintro e w1 ⟨rfl, hb1⟩
    have HB1 : Hid (Below w.heap.size w w1) := hbW.out.trans (hb1.mono hbW.out.size)
    go_wp2_with (first | (go_at_call 13; refine (gwakes_any _).mono ?_; rintro e w3 ⟨rfl, hb3⟩))
    go_ret
    exact ⟨rfl, HB1.out.trans (hb3.mono HB1.out.size)⟩
end Go.Proofs.Ytnbniaijholimaa
