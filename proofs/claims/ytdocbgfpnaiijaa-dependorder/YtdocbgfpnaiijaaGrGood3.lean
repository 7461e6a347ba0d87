/-
  Layer 3 (grammar): whether all rules fit.
-/
import Derived.Test.YtdocbgfpnaiijaaGrGood2
import Derived.Deep.RegionWith
namespace Go.Proofs.Ytdocbgfpnaiijaa
open Go.RowKit

set_option maxHeartbeats 3200000 in
theorem rulesFit_is (r : Bool) (g : Gr.Gm) (A : GA) (w : World) (h1 : g.terms.length ≤ 4000 ∧ g.names.length ≤ 4000) (h2 : g.rules.length ≤ 2000) (hm : ∀ x ∈ g.rules, x.2.length ≤ maxLen) (h : GmAt w.heap.size w g A) (hr : Gr.each (Gr.fits g) g.rules = r) :
    Calls Try.prog 62 #[.agg (gmCells g A)] w fun e w' => e = .returned (.bool r) ∧ Below w.heap.size w w' := by
  have HR : Hid (RlsAt w.heap.size w A.ra g.rules) := h.rules
  have hc1 := h.rcap.1
  have hc2 : A.rc ≤ 9223372036854775807 := h.rcap.2
  have HM : Hid _ := hm
  have HA : Hid ((∀ k (hk : k < g.rules.length), (Gr.fits g g.rules[k] && !Gr.has g.rules[k] (g.rules.take k)) = true) → r = true) := fun hh => by rw [← hr, Gr.each_all hh]
  have HN : Hid (∀ k (hk : k < g.rules.length), (Gr.fits g g.rules[k] && !Gr.has g.rules[k] (g.rules.take k)) = false → r = false) := fun k hk hh => by rw [← hr, Gr.each_fail k hk hh]
  have HF : Hid (∀ (b : Bool) (ru : Gr.Rl) (ro : Option Addr) (rc : Nat) (W : World), ru.2.length ≤ maxLen → IntsAt W.heap.size W ro ru.2 → Gr.fits g ru = b → Calls Try.prog 85 #[.agg (gmCells g A), .agg #[.int .i64 ru.1, .slice ro ru.2.length rc]] W fun e w' => e = .returned (.bool b) ∧ Below W.heap.size W w') :=
    fun b ru ro rc W hm hi hb => ruleFits_is b g A ru ro rc W h1 hm hi hb
  clear h hr hm
  unfold gmCells at *
  have hbW : Hid (Below w.heap.size w (w.alloc (Obj.cells #[.slice A.ta g.terms.length A.tc, .slice A.na g.names.length A.nc, .slice A.ra g.rules.length A.rc] 25))) := (Below.refl _ w).alloc (Nat.le_refl _) _
  have B0 : Hid ((w.alloc (Obj.cells #[.slice A.ta g.terms.length A.tc, .slice A.na g.names.length A.nc, .slice A.ra g.rules.length A.rc] 25)).heap[w.heap.size]? = some (.cells #[.slice A.ta g.terms.length A.tc, .slice A.na g.names.length A.nc, .slice A.ra g.rules.length A.rc] 25 (0, 0))) := heap_alloc_new w _
  have hWs : Hid ((w.alloc (Obj.cells #[.slice A.ta g.terms.length A.tc, .slice A.na g.names.length A.nc, .slice A.ra g.rules.length A.rc] 25)).heap.size = w.heap.size + 1) := by show _ = _; simp
  go_enter Try.func62, Try.ntmps62
  go_wp2_with fail
  generalize (w.alloc (Obj.cells #[.slice A.ta g.terms.length A.tc, .slice A.na g.names.length A.nc, .slice A.ra g.rules.length A.rc] 25)) = W at *
  go_loopw [8] (fun i wr => ∃ (q : Nat), q ≤ g.rules.length ∧ i = .int .i64 q ∧ Hid (∀ k (hk : k < g.rules.length), k < q → (Gr.fits g g.rules[k] && !Gr.has g.rules[k] (g.rules.take k)) = true) ∧ Hid (Below W.heap.size W wr)) (fun i _ => g.rules.length - (intOf i).toNat)
  case atStart => exact ⟨0, Nat.zero_le _, rfl, fun k hk h => by omega, Below.refl _ _⟩
  case round =>
    obtain ⟨q, hq, rfl, hE, hb⟩ := hrel
    have hszz := hb.out.size
    rw [hWs.out] at hszz
    by_cases hlt : q < g.rules.length
    · obtain ⟨b, o, ro, rc, hao, hbb, _, k0, k1, ki, _⟩ := HR.out q hlt
      have hmq := HM.out g.rules[q] (List.getElem_mem hlt)
      have HQ : Hid ((g.rules.take q).length = q) := by show _ = _; rw [List.length_take]; omega
      have HRT : Hid (RlsAt w.heap.size w A.ra (g.rules.take q)) := HR.out.take q
      have HNq : Hid _ := HN.out q hlt
      have HEq : Hid ((Gr.fits g g.rules[q] && !Gr.has g.rules[q] (g.rules.take q)) = true → ∀ k (hk : k < g.rules.length), k < q + 1 → (Gr.fits g g.rules[k] && !Gr.has g.rules[k] (g.rules.take k)) = true) := fun h k hk hk2 => by
        by_cases e : k = q
        · subst e; exact h
        · exact hE.out k hk (by omega)
      have HI : Hid (IntsAt w.heap.size w ro g.rules[q].2) := ki
      replace k0 := cell_later hb.out (cell_later hbW.out k0)
      replace k1 := cell_later hb.out (cell_later hbW.out k1)
      have H8 : Hid (∀ x ∈ g.rules.take q, x.2.length ≤ 4000) := fun x hx => by
        obtain ⟨k, hk, rfl⟩ := List.getElem_of_mem hx
        rw [List.length_take] at hk
        have := hE.out k (by omega) (by omega)
        rw [List.getElem_take]
        simp only [Bool.and_eq_true, Gr.fits, decide_eq_true_eq] at this
        have := this.1.1.2
        omega
      have HFq : Hid (∀ (b : Bool) (W' : World), Below w.heap.size w W' → Gr.fits g g.rules[q] = b → _) := fun b W' hW' hb => HF.out b g.rules[q] ro rc W' hmq (HI.out.later hW').size hb
      have HLq : Hid (∀ (b : Bool) (W' : World), Below w.heap.size w W' → Gr.has g.rules[q] (g.rules.take q) = b → _) := fun b W' hW' hb => hasAlike_is b (g.rules.take q) g.rules[q] (by rw [HQ.out]; omega) H8.out A.ra ro A.rc rc W' (HRT.out.later hW').size (HI.out.later hW').size hb
      rw [HQ.out] at HLq
      clear ki hE
      generalize g.rules[q] = y at *
      obtain ⟨yl, yr⟩ := y
      simp only at k0 k1 HFq HLq hmq
      obtain ⟨g0, g1, g2, _⟩ := cells_three_z ((hb.out.block _ (by rw [hWs.out]; omega)).trans B0.out)
      have hz0 : w.heap.size < wr.heap.size := by omega
      have hbr : Hid (Below w.heap.size w (wr.alloc (Obj.cells #[.int .i64 yl, .slice ro yr.length rc] 31))) := (hbW.out.trans (hb.out.mono hbW.out.size)).alloc (by omega) _
      cases hp : Gr.fits g (yl, yr)
      · have R : Hid (r = false) := HNq.out (by rw [hp]; rfl)
        have HC : Hid (∀ W' : World, Below w.heap.size w W' → _) := fun W' hW' => HFq.out false W' hW' hp
        clear HNq HEq HN HA HFq HLq HF hp HRT HR HM H8
        rw [hao] at *
        go_wp2_with fail
        first | go_region_with (first | (go_at_call 85; refine (HC.out _ hbr.out.drew).mono ?_; rintro e w2 ⟨rfl, hb2⟩)) | fail
        all_goals go_wp2_with fail
        all_goals go_ret
        all_goals exact ⟨ret_bool R.out.symm, hbr.out.drew.trans (hb2.mono hbr.out.size)⟩
      · have HD : Hid (∀ w2, Below (wr.alloc (Obj.cells #[.int .i64 yl, .slice ro yr.length rc] 31)).drew.heap.size (wr.alloc (Obj.cells #[.int .i64 yl, .slice ro yr.length rc] 31)).drew w2 →
            w2.cell? ⟨w.heap.size, 0, none⟩ = some (.slice A.ta g.terms.length A.tc) ∧ w2.cell? ⟨w.heap.size, 1, none⟩ = some (.slice A.na g.names.length A.nc) ∧ w2.cell? ⟨w.heap.size, 2, none⟩ = some (.slice A.ra g.rules.length A.rc) ∧
            w2.cell? ⟨wr.heap.size, 0, none⟩ = some (.int .i64 yl) ∧ w2.cell? ⟨wr.heap.size, 1, none⟩ = some (.slice ro yr.length rc) ∧ Below w.heap.size w w2 ∧ Below W.heap.size W w2) := fun w2 h2 => by
          have hb9 : Below (wr.alloc (Obj.cells #[.int .i64 yl, .slice ro yr.length rc] 31)).heap.size (wr.alloc (Obj.cells #[.int .i64 yl, .slice ro yr.length rc] 31)) w2 := ((Below.refl _ _).drew).trans h2
          refine ⟨later_alloc hb9 g0, later_alloc hb9 g1, later_alloc hb9 g2, (hb9.cell (by simp)).trans (by simp [go_sem]), (hb9.cell (by simp)).trans (by simp [go_sem]), hbr.out.trans (hb9.mono hbr.out.size), (hb.out.alloc hb.out.size _).trans (hb9.mono (by have := hb.out.size; simp; omega))⟩
        have hqc : (q : Int) ≤ (A.rc : Int) := by omega
        cases hin : Gr.has (yl, yr) (g.rules.take q)
        · have R : Hid _ := HEq.out (by rw [hp, hin]; rfl)
          have HC : Hid (∀ W' : World, Below w.heap.size w W' → _) := fun W' hW' => HFq.out true W' hW' hp
          have HL : Hid (∀ W' : World, Below w.heap.size w W' → _) := fun W' hW' => HLq.out false W' hW' hin
          clear HNq HEq HN HA HFq HLq HF hp hin HRT HR HM H8
          rw [hao] at *
          go_wp2_with fail
          first | go_region_with (first
            | (go_at_call 85; refine (HC.out _ hbr.out.drew).mono ?_; rintro e w2 ⟨rfl, hb2⟩; obtain ⟨d0, d1, d2, e0, e1, hbr2, hbW2⟩ := HD.out _ hb2; clear hb2)
            | (go_at_call 75; refine (HL.out _ hbr2).mono ?_; rintro e w3 ⟨rfl, hb3⟩))
          all_goals
            have hbf : Hid (Below W.heap.size W w3) := hbW2.trans (hb3.mono hbW2.size)
            clear d0 d1 d2 e0 e1 g0 g1 g2 k0 k1
            go_wp2_with fail
            go_roundw
            case rel => exact ⟨q + 1, by omega, by go_num, R, hbf⟩
            case measure => simp [intOf]; omega
        · have R : Hid (r = false) := HNq.out (by rw [hp, hin]; rfl)
          have HC : Hid (∀ W' : World, Below w.heap.size w W' → _) := fun W' hW' => HFq.out true W' hW' hp
          have HL : Hid (∀ W' : World, Below w.heap.size w W' → _) := fun W' hW' => HLq.out true W' hW' hin
          clear HNq HEq HN HA HFq HLq HF hp hin HRT HR HM H8
          rw [hao] at *
          go_wp2_with fail
          first | go_region_with (first
            | (go_at_call 85; refine (HC.out _ hbr.out.drew).mono ?_; rintro e w2 ⟨rfl, hb2⟩; obtain ⟨d0, d1, d2, e0, e1, hbr2, hbW2⟩ := HD.out _ hb2; clear hb2)
            | (go_at_call 75; refine (HL.out _ hbr2).mono ?_; rintro e w3 ⟨rfl, hb3⟩))
          all_goals go_wp2_with fail
          all_goals go_ret
          all_goals exact ⟨ret_bool R.out.symm, hbr2.trans (hb3.mono hbr2.size)⟩
    · have R : Hid (r = true) := HA.out (fun k hk => hE.out k hk (by omega))
      clear hE HA HN
      go_wp2_with fail
      go_ret
      exact ⟨ret_bool R.out.symm, hbW.out.trans (hb.out.mono hbW.out.size)⟩
end Go.Proofs.Ytdocbgfpnaiijaa
