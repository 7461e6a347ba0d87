/-
  The document's own Good of layer 3: whether any grammar may be.
-/
import Derived.Test.YtdocbgfpnaiijaaGrRefsG
import Derived.Test.YtdocbgfpnaiijaaGrMath
import Derived.Test.YtdocbgfpnaiijaaLexRef1
import Derived.Test.YtdocbgfpnaiijaaGrGood6
namespace Go.Proofs.Ytdocbgfpnaiijaa
open Go.RowKit

set_option maxRecDepth 100000 in
set_option maxHeartbeats 6400000 in
theorem refGood_any (r : Bool) (g : Gr.Gm) (A : GA) (w : World) (hm : ∀ x ∈ g.rules, x.2.length ≤ maxLen) (h : GmAt w.heap.size w g A) (hr : Gr.refGood g = r) :
    Calls Try.prog 9 #[.agg (gmCells g A)] w fun e w' => e = .returned (.bool r) ∧ Below w.heap.size w w' := by
  obtain ⟨ta, tc, na, nc, ra, rc⟩ := A
  have HG : Hid (GmAt w.heap.size w g ⟨ta, tc, na, nc, ra, rc⟩) := h
  have HM : Hid _ := hm
  have HR : Hid (Gr.refGood g = r) := hr
  have hbW : Hid (Below w.heap.size w (w.alloc (Obj.cells #[.slice ta g.terms.length tc, .slice na g.names.length nc, .slice ra g.rules.length rc] 25))) := (Below.refl _ w).alloc (Nat.le_refl _) _
  have b0 : Hid ((w.alloc (Obj.cells #[.slice ta g.terms.length tc, .slice na g.names.length nc, .slice ra g.rules.length rc] 25)).heap[w.heap.size]? = some (.cells #[.slice ta g.terms.length tc, .slice na g.names.length nc, .slice ra g.rules.length rc] 25 (0, 0))) := heap_alloc_new w _
  have hWs : Hid ((w.alloc (Obj.cells #[.slice ta g.terms.length tc, .slice na g.names.length nc, .slice ra g.rules.length rc] 25)).heap.size = w.heap.size + 1) := by show _ = _; simp
  have l1 : g.terms.length ≤ 9223372036854775807 := Nat.le_trans h.tcap.1 h.tcap.2
  have l2 : g.names.length ≤ 9223372036854775807 := Nat.le_trans h.ncap.1 h.ncap.2
  have l3 : g.rules.length ≤ 9223372036854775807 := Nat.le_trans h.rcap.1 h.rcap.2
  have hrc : (g.rules.length : Int) ≤ (rc : Int) := by have := h.rcap.1; simp only at this; omega
  simp only [gmCells]
  clear h hr hm
  go_enter Try.func9, Try.ntmps9
  go_wp2_with fail
  generalize (w.alloc (Obj.cells #[.slice ta g.terms.length tc, .slice na g.names.length nc, .slice ra g.rules.length rc] 25)) = W at *
  obtain ⟨g0, g1, g2, _⟩ := cells_three_z b0.out
  go_quiet (fail)
  by_cases hn1 : g.names.length < 1
  · have R : Hid (r = false) := by show _ = _; rw [← HR.out]; unfold Gr.refGood; rw [show Gr.sizes g = false from decide_eq_false (by omega)]; rfl
    have e : (g.names.length : Int) < 1 := by omega
    go_wp2_with fail
    go_ret
    exact ⟨ret_bool R.out.symm, below_drewN hbW.out _⟩
  have e1 : decide ((g.names.length : Int) < 1) = false := decide_eq_false (by omega)
  by_cases hn2 : 40 < g.names.length
  · have R : Hid (r = false) := by show _ = _; rw [← HR.out]; unfold Gr.refGood; rw [show Gr.sizes g = false from decide_eq_false (by omega)]; rfl
    have e : (40 : Int) < (g.names.length : Int) := by omega
    go_wp2_with fail
    go_ret
    exact ⟨ret_bool R.out.symm, below_drewN hbW.out _⟩
  have e2 : decide ((40 : Int) < (g.names.length : Int)) = false := decide_eq_false (by omega)
  by_cases hn3 : 40 < g.terms.length
  · have R : Hid (r = false) := by show _ = _; rw [← HR.out]; unfold Gr.refGood; rw [show Gr.sizes g = false from decide_eq_false (by omega)]; rfl
    have e : (40 : Int) < (g.terms.length : Int) := by omega
    go_wp2_with fail
    go_ret
    exact ⟨ret_bool R.out.symm, below_drewN hbW.out _⟩
  have e3 : decide ((40 : Int) < (g.terms.length : Int)) = false := decide_eq_false (by omega)
  by_cases hn4 : g.rules.length < 1
  · have R : Hid (r = false) := by show _ = _; rw [← HR.out]; unfold Gr.refGood; rw [show Gr.sizes g = false from decide_eq_false (by omega)]; rfl
    have e : (g.rules.length : Int) < 1 := by omega
    go_wp2_with fail
    go_ret
    exact ⟨ret_bool R.out.symm, below_drewN hbW.out _⟩
  have e4 : decide ((g.rules.length : Int) < 1) = false := decide_eq_false (by omega)
  by_cases hn5 : 60 < g.rules.length
  · have R : Hid (r = false) := by show _ = _; rw [← HR.out]; unfold Gr.refGood; rw [show Gr.sizes g = false from decide_eq_false (by omega)]; rfl
    have e : (60 : Int) < (g.rules.length : Int) := by omega
    go_wp2_with fail
    go_ret
    exact ⟨ret_bool R.out.symm, below_drewN hbW.out _⟩
  have e5 : decide ((60 : Int) < (g.rules.length : Int)) = false := decide_eq_false (by omega)
  have HR1 : Hid ((Gr.each (fun s => Lx.isName s.data.toList) g.names && Gr.each (fun s => Lx.isTerm s.data.toList) g.terms && Gr.dR g.terms.length g.names.length [] 0 0 g.rules) = r) := by
    show _ = _; rw [← HR.out]; unfold Gr.refGood; rw [show Gr.sizes g = true from decide_eq_true (by omega)]; simp
  clear HR
  go_wp2_with fail
  clear e1 e2 e3 e4 e5
  go_loopw [5] (fun i wr => ∃ k : Nat, k ≤ g.names.length ∧ i = .int .i64 k ∧ Hid (Below W.heap.size W wr) ∧ Hid (∀ j (hj : j < g.names.length), j < k → (Lx.isName g.names[j].data.toList && !Gr.has g.names[j] (g.names.take j)) = true)) (fun i _ => g.names.length - (intOf i).toNat)
  case atStart => exact ⟨0, Nat.zero_le _, rfl, below_drewN (Below.refl _ _) _, fun j hj h => by omega⟩
  case round =>
    obtain ⟨k, hk, rfl, hb, hI⟩ := hrel
    have HBr : Hid (Below w.heap.size w wr) := hbW.out.trans (hb.out.mono hbW.out.size)
    clear g0 g1 g2
    obtain ⟨g0, g1, g2, _⟩ := cells_three_z ((hb.out.block _ (by rw [hWs.out]; omega)).trans b0.out)
    by_cases hlt : k < g.names.length
    · have hki : (k : Int) < (g.names.length : Int) := by omega
      have HAT : Hid (∀ W' : World, Below w.heap.size w W' → _) := fun W' hW' => refAt_any g.names (by omega) na nc g.names[k] W' (HG.out.names.later hW').size
      have HIN : Hid (∀ W' : World, _) := fun W' => refIsName_any g.names[k] W' (HG.out.ntext _ (List.getElem_mem hlt))
      have HPF : Hid (decide (Gr.pos g.names[k] g.names = (k : Int)) = !Gr.has g.names[k] (g.names.take k)) := Gr.pos_first _ _ hlt
      have HFAIL : Hid ((Lx.isName g.names[k].data.toList && !Gr.has g.names[k] (g.names.take k)) = false → r = false) := fun hf => by
        rw [← HR1.out, Gr.each_fail k hlt hf]; rfl
      have HNEXT : Hid ((Lx.isName g.names[k].data.toList && !Gr.has g.names[k] (g.names.take k)) = true → ∀ j (hj : j < g.names.length), j < k + 1 → (Lx.isName g.names[j].data.toList && !Gr.has g.names[j] (g.names.take j)) = true) := fun hf j hj hjk => by
        by_cases e : j = k
        · subst e; exact hf
        · exact hI.out j hj (by omega)
      obtain ⟨b, o, hna, hbw, _, c0⟩ := HG.out.names.get k hlt
      simp only at hna
      subst hna
      replace c0 := cell_later HBr.out c0
      have hpb := (Gr.pos_has g.names[k] g.names).1
      have hpl := (Gr.pos_has g.names[k] g.names).2.2
      generalize g.names[k] = x at *
      generalize Lx.isName x.data.toList = nb at *
      generalize Gr.has x (g.names.take k) = hs at *
      generalize Gr.pos x g.names = pz at *
      go_upto_region 7 with fail
      cases nb
      · have R : Hid (r = false) := HFAIL.out rfl
        go_quiet (first | (go_at_call 30; exact Calls.quiet_of ((HIN.out _).mono (fun e w' h => ⟨h.1, 0, h.2⟩))))
        go_wp2_with fail
        go_ret
        exact ⟨ret_bool R.out.symm, below_drewN HBr.out _⟩
      · cases hs
        · have hp : pz = (k : Int) := of_decide_eq_true HPF.out
          subst hp
          have HN := HNEXT.out rfl
          go_quiet (first | (go_at_call 30; exact Calls.quiet_of ((HIN.out _).mono (fun e w' h => ⟨h.1, 0, h.2⟩))) | (go_at_call 31; exact Calls.quiet_of ((HAT.out _ (below_drewN HBr.out _)).mono (fun e w' h => ⟨h.1, 0, h.2⟩))))
          go_wp2_with fail
          go_roundw
          case rel => exact ⟨k + 1, by omega, by go_num, below_drewN hb.out _, HN⟩
          case measure => simp [intOf]; omega
        · have R : Hid (r = false) := HFAIL.out rfl
          have hp : (pz != (k : Int)) = true := by have := of_decide_eq_false HPF.out; simpa using this
          go_quiet (first | (go_at_call 30; exact Calls.quiet_of ((HIN.out _).mono (fun e w' h => ⟨h.1, 0, h.2⟩))) | (go_at_call 31; exact Calls.quiet_of ((HAT.out _ (below_drewN HBr.out _)).mono (fun e w' h => ⟨h.1, 0, h.2⟩))))
          go_wp2_with fail
          go_ret
          exact ⟨ret_bool R.out.symm, below_drewN HBr.out _⟩
    · have HR2 : Hid ((Gr.each (fun s => Lx.isTerm s.data.toList) g.terms && Gr.dR g.terms.length g.names.length [] 0 0 g.rules) = r) := by
        show _ = _; rw [← HR1.out, Gr.each_all (p := fun s => Lx.isName s.data.toList) (l := g.names) (fun j hj => hI.out j hj (by omega))]; rfl
      clear HR1 hI
      go_wp2_with fail
      clear g0 g1 g2
      go_loopw [6] (fun i wr => ∃ k : Nat, k ≤ g.terms.length ∧ i = .int .i64 k ∧ Hid (Below W.heap.size W wr) ∧ Hid (∀ j (hj : j < g.terms.length), j < k → (Lx.isTerm g.terms[j].data.toList && !Gr.has g.terms[j] (g.terms.take j)) = true)) (fun i _ => g.terms.length - (intOf i).toNat)
      case atStart => exact ⟨0, Nat.zero_le _, rfl, hb, fun j hj h => by omega⟩
      case round =>
        obtain ⟨k, hk, rfl, hb, hI⟩ := hrel
        have HBr : Hid (Below w.heap.size w wr) := hbW.out.trans (hb.out.mono hbW.out.size)
        obtain ⟨g0, g1, g2, _⟩ := cells_three_z ((hb.out.block _ (by rw [hWs.out]; omega)).trans b0.out)
        by_cases hlt : k < g.terms.length
        · have hki : (k : Int) < (g.terms.length : Int) := by omega
          have HAT : Hid (∀ W' : World, Below w.heap.size w W' → _) := fun W' hW' => refAt_any g.terms (by omega) ta tc g.terms[k] W' (HG.out.terms.later hW').size
          have HIN : Hid (∀ W' : World, _) := fun W' => refIsTerm_any g.terms[k] W' (HG.out.ttext _ (List.getElem_mem hlt))
          have HPF : Hid (decide (Gr.pos g.terms[k] g.terms = (k : Int)) = !Gr.has g.terms[k] (g.terms.take k)) := Gr.pos_first _ _ hlt
          have HFAIL : Hid ((Lx.isTerm g.terms[k].data.toList && !Gr.has g.terms[k] (g.terms.take k)) = false → r = false) := fun hf => by
            rw [← HR2.out, Gr.each_fail k hlt hf]; rfl
          have HNEXT : Hid ((Lx.isTerm g.terms[k].data.toList && !Gr.has g.terms[k] (g.terms.take k)) = true → ∀ j (hj : j < g.terms.length), j < k + 1 → (Lx.isTerm g.terms[j].data.toList && !Gr.has g.terms[j] (g.terms.take j)) = true) := fun hf j hj hjk => by
            by_cases e : j = k
            · subst e; exact hf
            · exact hI.out j hj (by omega)
          obtain ⟨b, o, hta, hbw, _, c0⟩ := HG.out.terms.get k hlt
          simp only at hta
          subst hta
          replace c0 := cell_later HBr.out c0
          have hpb := (Gr.pos_has g.terms[k] g.terms).1
          have hpl := (Gr.pos_has g.terms[k] g.terms).2.2
          generalize g.terms[k] = x at *
          generalize Lx.isTerm x.data.toList = nb at *
          generalize Gr.has x (g.terms.take k) = hs at *
          generalize Gr.pos x g.terms = pz at *
          go_upto_region 12 with fail
          cases nb
          · have R : Hid (r = false) := HFAIL.out rfl
            go_quiet (first | (go_at_call 32; exact Calls.quiet_of ((HIN.out _).mono (fun e w' h => ⟨h.1, 0, h.2⟩))))
            go_wp2_with fail
            go_ret
            exact ⟨ret_bool R.out.symm, below_drewN HBr.out _⟩
          · cases hs
            · have hp : pz = (k : Int) := of_decide_eq_true HPF.out
              subst hp
              have HN := HNEXT.out rfl
              go_quiet (first | (go_at_call 32; exact Calls.quiet_of ((HIN.out _).mono (fun e w' h => ⟨h.1, 0, h.2⟩))) | (go_at_call 31; exact Calls.quiet_of ((HAT.out _ (below_drewN HBr.out _)).mono (fun e w' h => ⟨h.1, 0, h.2⟩))))
              go_wp2_with fail
              go_roundw
              case rel => exact ⟨k + 1, by omega, by go_num, below_drewN hb.out _, HN⟩
              case measure => simp [intOf]; omega
            · have R : Hid (r = false) := HFAIL.out rfl
              have hp : (pz != (k : Int)) = true := by have := of_decide_eq_false HPF.out; simpa using this
              go_quiet (first | (go_at_call 32; exact Calls.quiet_of ((HIN.out _).mono (fun e w' h => ⟨h.1, 0, h.2⟩))) | (go_at_call 31; exact Calls.quiet_of ((HAT.out _ (below_drewN HBr.out _)).mono (fun e w' h => ⟨h.1, 0, h.2⟩))))
              go_wp2_with fail
              go_ret
              exact ⟨ret_bool R.out.symm, below_drewN HBr.out _⟩
        · have HR3 : Hid (Gr.dR g.terms.length g.names.length [] 0 0 g.rules = r) := by
            show _ = _; rw [← HR2.out, Gr.each_all (p := fun s => Lx.isTerm s.data.toList) (l := g.terms) (fun j hj => hI.out j hj (by omega))]; rfl
          clear HR2 hI
          go_wp2_with fail
          clear g0 g1 g2
          go_loopw [7, 8, 9] (fun nv tv i wr => ∃ (k : Nat) (nm tm : Int), k ≤ g.rules.length ∧ i = .int .i64 k ∧ nv = .int .i64 nm ∧ tv = .int .i64 tm ∧ 0 ≤ nm ∧ nm ≤ g.names.length ∧ 0 ≤ tm ∧ tm ≤ g.terms.length ∧ Hid (Below W.heap.size W wr) ∧ Hid (Gr.dR g.terms.length g.names.length (g.rules.take k) nm tm (g.rules.drop k) = r)) (fun _ _ i _ => g.rules.length - (intOf i).toNat)
          case atStart => exact ⟨0, 0, 0, Nat.zero_le _, rfl, rfl, rfl, by omega, by omega, by omega, by omega, hb, by show _ = _; rw [List.take_zero, List.drop_zero]; exact HR3.out⟩
          case round =>
            clear hb HBr HR3
            obtain ⟨k3, nm, tm, hk3, rfl, rfl, rfl, nm0, nm1, tm0, tm1, hb, hI⟩ := hrel
            have HBr : Hid (Below w.heap.size w wr) := hbW.out.trans (hb.out.mono hbW.out.size)
            obtain ⟨g0, g1, g2, _⟩ := cells_three_z ((hb.out.block _ (by rw [hWs.out]; omega)).trans b0.out)
            by_cases hlt : k3 < g.rules.length
            · have hki : (k3 : Int) < (g.rules.length : Int) := by omega
              have hk0 : (0 : Int) ≤ (k3 : Int) := by omega
              obtain ⟨rb, ro, yo, yc, hra, hrb, _, y0, y1, yI, hyc⟩ := HG.out.rules k3 hlt
              simp only at hra
              subst hra
              have hyl := HM.out _ (List.getElem_mem hlt)
              have HD : Hid (g.rules.drop k3 = g.rules[k3] :: g.rules.drop (k3 + 1)) := List.drop_eq_getElem_cons hlt
              have HTK : Hid (g.rules.take (k3 + 1) = g.rules.take k3 ++ [g.rules[k3]]) := by show _ = _; rw [List.take_add_one, List.getElem?_eq_getElem hlt]; rfl
              have HTL : Hid ((g.rules.take k3).length = k3) := by show _ = _; rw [List.length_take]; omega
              rw [HD.out] at hI
              clear HD
              have YI : Hid (IntsAt w.heap.size w yo g.rules[k3].2) := yI
              have hrk : (k3 : Int) ≤ (rc : Int) := by omega
              clear yI
              generalize g.rules[k3] = y at *
              obtain ⟨yl, yr⟩ := y
              simp only at y0 y1 YI hyl hyc
              have hyl' := hyl
              unfold maxLen at hyl'
              have HHAS : Hid (∀ (b : Bool) (W' : World), Below w.heap.size w W' → yr.length ≤ 4000 → Gr.has (yl, yr) (g.rules.take k3) = b → Calls Try.prog 33 #[.slice (some ⟨rb, ro, none⟩) (g.rules.take k3).length rc, .agg #[.int .i64 yl, .slice yo yr.length yc]] W' fun e w' => e = .returned (.bool b) ∧ Below W'.heap.size W' w') :=
                fun b W' hW' h4 hb' => refHas_is b (g.rules.take k3) (by rw [HTL.out]; omega) _ _ yl yr yo yc W' ((HG.out.rules.take k3).later hW').size (YI.out.later hW').size h4 (fun z hz => HM.out z (List.mem_of_mem_take hz)) hb'
              rw [HTL.out] at HHAS
              rw [Gr.dR] at hI
              have HB1 : Hid (Below w.heap.size w (wr.alloc (Obj.cells #[.int .i64 yl, .slice yo yr.length yc] 31))) := HBr.out.alloc HBr.out.size _
              have HBa : Hid (Below wr.heap.size wr (wr.alloc (Obj.cells #[.int .i64 yl, .slice yo yr.length yc] 31))) := (Below.refl _ wr).alloc (Nat.le_refl _) _
              have bX : Hid ((wr.alloc (Obj.cells #[.int .i64 yl, .slice yo yr.length yc] 31)).heap[wr.heap.size]? = some (.cells #[.int .i64 yl, .slice yo yr.length yc] 31 (0, 0))) := heap_alloc_new wr _
              replace y0 := cell_later HBr.out y0
              replace y1 := cell_later HBr.out y1
              go_upto_region 19 with fail
              clear y0 y1
              replace g2 := cell_later HBa.out g2
              clear g0 g1
              generalize (wr.alloc (Obj.cells #[.int .i64 yl, .slice yo yr.length yc] 31)) = V at *
              have hXV : wr.heap.size < V.heap.size := (Array.getElem?_eq_some_iff.1 bX.out).1
              have HBW : Hid (Below W.heap.size W V) := hb.out.trans (HBa.out.mono hb.out.size)
              clear HBa HBr hb
              generalize wr.heap.size = X at *
              obtain ⟨x0, x1, _, _⟩ := cells_two_z bX.out
              by_cases c1 : yl < (g.terms.length : Int)
              · have R : Hid (r = false) := by show _ = _; rw [← hI.out, if_pos (by simp only; omega)]
                clear hI
                go_quiet (fail)
                go_wp2_with fail
                go_ret
                exact ⟨ret_bool R.out.symm, below_drewN HB1.out _⟩
              have c1i : decide (yl < (g.terms.length : Int)) = false := decide_eq_false c1
              by_cases c2 : (g.terms.length : Int) + nm < yl
              · have R : Hid (r = false) := by show _ = _; rw [← hI.out, if_pos (by simp only; omega)]
                clear hI
                go_quiet (fail)
                go_wp2_with fail
                go_ret
                exact ⟨ret_bool R.out.symm, below_drewN HB1.out _⟩
              have c2i : decide ((g.terms.length : Int) + nm < yl) = false := decide_eq_false c2
              by_cases c3 : (g.terms.length : Int) + g.names.length ≤ yl
              · have R : Hid (r = false) := by show _ = _; rw [← hI.out, if_pos (by simp only; omega)]
                clear hI
                go_quiet (fail)
                go_wp2_with fail
                go_ret
                exact ⟨ret_bool R.out.symm, below_drewN HB1.out _⟩
              have c3i : decide ((g.terms.length : Int) + (g.names.length : Int) ≤ yl) = false := decide_eq_false c3
              by_cases c4 : 8 < yr.length
              · have R : Hid (r = false) := by show _ = _; rw [← hI.out, if_pos (by simp only; omega)]
                have c4i : (8 : Int) < (yr.length : Int) := by omega
                clear hI
                go_quiet (fail)
                go_wp2_with fail
                go_ret
                exact ⟨ret_bool R.out.symm, below_drewN HB1.out _⟩
              have c4i : decide ((8 : Int) < (yr.length : Int)) = false := decide_eq_false (by omega)
              have G2 : ∀ p : Later V, p.w.cell? ⟨w.heap.size, 2, none⟩ = some (.slice (some ⟨rb, ro, none⟩) g.rules.length rc) := Later.cell g2
              have X0 : ∀ p : Later V, p.w.cell? ⟨X, 0, none⟩ = some (.int .i64 yl) := Later.cell x0
              have X1 : ∀ p : Later V, p.w.cell? ⟨X, 1, none⟩ = some (.slice yo yr.length yc) := Later.cell x1
              cases hh : Gr.has (yl, yr) (g.rules.take k3)
              · have HH1 : Hid (∀ (W' : World), Below w.heap.size w W' → _) := fun W' hW' => HHAS.out false W' hW' (by omega) hh
                have HI2 : Hid ((match Gr.dS g.terms.length g.names.length tm yr with | none => false | some tm' => Gr.dR g.terms.length g.names.length (g.rules.take (k3 + 1)) (if yl = (g.terms.length : Int) + nm then nm + 1 else nm) tm' (g.rules.drop (k3 + 1))) = r) := by
                  show _ = _
                  have h := hI.out
                  rw [if_neg (by rintro (h | h | h | h | h) <;> first | exact Gr.has_no hh h | (simp only at h; omega)), ← HTK.out] at h
                  exact h
                clear hI HHAS hh
                go_cut [134] (fun v wc => v = .bool false ∧ Below V.heap.size V wc)
                case first =>
                  refine wp_region_later (by kernel_rfl) (by kernel_rfl) ?_
                  repeat (first | go_big_quiet_step (first | (go_at_call 33; exact Calls.later_of (HH1.out _ (HB1.out.trans (Below.mono (Later.h _) HB1.out.size))))) | quiet_step (first | (go_at_call 33; exact Calls.later_of (HH1.out _ (HB1.out.trans (Below.mono (Later.h _) HB1.out.size))))))
                  refine wpQuiet_nil ?_
                  intro _ hw'
                  obtain ⟨pq, hw''⟩ := hw'
                  subst hw''
                  go_wp2_with fail
                  go_meet
                  case rel => exact ⟨rfl, pq.h⟩
                case rest =>
                  obtain ⟨rfl, hbc⟩ := hcut
                  have HBc : Hid (Below V.heap.size V wc) := hbc
                  have HBWc : Hid (Below W.heap.size W wc) := HBW.out.trans (hbc.mono HBW.out.size)
                  have HBwc : Hid (Below w.heap.size w wc) := HB1.out.trans (hbc.mono HB1.out.size)
                  clear x0 x1 g2 G2 X0 X1 hbc
                  obtain ⟨x0, x1, _, _⟩ := cells_two_z ((HBc.out.block _ hXV).trans bX.out)
                  obtain ⟨nm', HNM⟩ : ∃ nm' : Int, Hid (nm' = if yl = (g.terms.length : Int) + nm then nm + 1 else nm) := ⟨_, rfl⟩
                  rw [← HNM.out] at HI2
                  have nm0' : 0 ≤ nm' := by rw [HNM.out]; split <;> omega
                  have nm1' : nm' ≤ g.names.length := by rw [HNM.out]; split <;> omega
                  by_cases he : yl = (g.terms.length : Int) + nm
                  · have hn : nm' = nm + 1 := by rw [HNM.out, if_pos he]
                    have hei : (yl == (g.terms.length : Int) + nm) = true := by simp [he]
                    subst hn
                    clear HNM
                    go_wp2_with fail
                    clear x0 x1
                    go_loopw [8, 11, 12] (fun tv jv _ wi => ∃ (j : Nat) (t2 : Int), j ≤ yr.length ∧ jv = .int .i64 j ∧ tv = .int .i64 t2 ∧ 0 ≤ t2 ∧ t2 ≤ g.terms.length ∧ wi = wc ∧ Hid (Gr.dS g.terms.length g.names.length t2 (yr.drop j) = Gr.dS g.terms.length g.names.length tm yr)) (fun _ jv _ _ => yr.length - (intOf jv).toNat)
                    case atStart => exact ⟨0, tm, Nat.zero_le _, rfl, rfl, tm0, tm1, rfl, by show _ = _; rw [List.drop_zero]⟩
                    case round =>
                      obtain ⟨j, t2, hj, rfl, rfl, t20, t21, rfl, hS⟩ := hrel
                      obtain ⟨x0, x1, _, _⟩ := cells_two_z ((HBc.out.block _ hXV).trans bX.out)
                      by_cases hjl : j < yr.length
                      · have hji : (j : Int) < (yr.length : Int) := by omega
                        obtain ⟨sb, sq, rfl, _, _, s0⟩ := YI.out.get j hjl
                        replace s0 := cell_later HBwc.out s0
                        have HST : Hid (Gr.dS g.terms.length g.names.length tm yr = if yr[j] < 0 ∨ (g.terms.length : Int) + g.names.length ≤ yr[j] ∨ (yr[j] < g.terms.length ∧ t2 < yr[j]) then none else Gr.dS g.terms.length g.names.length (if yr[j] = t2 ∧ yr[j] < g.terms.length then t2 + 1 else t2) (yr.drop (j + 1))) := by
                          show _ = _; rw [← hS.out, List.drop_eq_getElem_cons hjl, Gr.dS]
                        clear hS
                        generalize yr[j] = sv at *
                        have HF : Hid ((sv < 0 ∨ (g.terms.length : Int) + g.names.length ≤ sv ∨ (sv < g.terms.length ∧ t2 < sv)) → r = false) := fun h => by
                          have := HI2.out
                          rw [HST.out, if_pos h] at this
                          exact this.symm
                        by_cases b1 : sv < 0
                        · have R : Hid (r = false) := HF.out (.inl b1)
                          clear HF HST HI2
                          go_wp2_with fail
                          go_ret
                          exact ⟨ret_bool R.out.symm, HBwc.out⟩
                        have b1i : decide (sv < 0) = false := decide_eq_false b1
                        by_cases b2 : (g.terms.length : Int) + g.names.length ≤ sv
                        · have R : Hid (r = false) := HF.out (.inr (.inl b2))
                          clear HF HST HI2
                          go_wp2_with fail
                          go_ret
                          exact ⟨ret_bool R.out.symm, HBwc.out⟩
                        have b2i : decide ((g.terms.length : Int) + (g.names.length : Int) ≤ sv) = false := decide_eq_false b2
                        by_cases b3 : sv < (g.terms.length : Int)
                        · by_cases b4 : t2 < sv
                          · have R : Hid (r = false) := HF.out (.inr (.inr ⟨b3, b4⟩))
                            clear HF HST HI2
                            go_wp2_with fail
                            go_ret
                            exact ⟨ret_bool R.out.symm, HBwc.out⟩
                          · have b4i : decide (t2 < sv) = false := decide_eq_false b4
                            clear HF
                            by_cases b5 : sv = t2
                            · have HS2 : Hid (Gr.dS g.terms.length g.names.length (t2 + 1) (yr.drop (j + 1)) = Gr.dS g.terms.length g.names.length tm yr) := by show _ = _; rw [HST.out, if_neg (by omega), if_pos ⟨b5, b3⟩]
                              clear HST
                              subst b5
                              go_wp2_with fail
                              go_roundw
                              case rel => exact ⟨j + 1, sv + 1, by omega, by go_num, rfl, by omega, by omega, by trivial, HS2⟩
                              case measure => simp [intOf]; omega
                            · have HS2 : Hid (Gr.dS g.terms.length g.names.length t2 (yr.drop (j + 1)) = Gr.dS g.terms.length g.names.length tm yr) := by show _ = _; rw [HST.out, if_neg (by omega), if_neg (by omega)]
                              have b5i : (sv == t2) = false := by simp [b5]
                              clear HST
                              go_wp2_with fail
                              go_roundw
                              case rel => exact ⟨j + 1, t2, by omega, by go_num, rfl, by omega, by omega, by trivial, HS2⟩
                              case measure => simp [intOf]; omega
                        · have HS2 : Hid (Gr.dS g.terms.length g.names.length t2 (yr.drop (j + 1)) = Gr.dS g.terms.length g.names.length tm yr) := by show _ = _; rw [HST.out, if_neg (by omega), if_neg (by omega)]
                          have b3i : decide (sv < (g.terms.length : Int)) = false := decide_eq_false b3
                          clear HST HF
                          by_cases b5 : sv = t2
                          · have b5i : (sv == t2) = true := by simp [b5]
                            go_wp2_with fail
                            go_roundw
                            case rel => exact ⟨j + 1, t2, by omega, by go_num, rfl, by omega, by omega, by trivial, HS2⟩
                            case measure => simp [intOf]; omega
                          · have b5i : (sv == t2) = false := by simp [b5]
                            go_wp2_with fail
                            go_roundw
                            case rel => exact ⟨j + 1, t2, by omega, by go_num, rfl, by omega, by omega, by trivial, HS2⟩
                            case measure => simp [intOf]; omega
                      · have HE : Hid (Gr.dR g.terms.length g.names.length (g.rules.take (k3 + 1)) (nm + 1) t2 (g.rules.drop (k3 + 1)) = r) := by
                          show _ = _
                          have h1 := HI2.out
                          rw [← hS.out, List.drop_of_length_le (by omega), Gr.dS] at h1
                          exact h1
                        have hji : ¬ (j : Int) < (yr.length : Int) := by omega
                        clear HI2 hS
                        go_wp2_with fail
                        go_roundw
                        case rel => exact ⟨k3 + 1, (nm + 1), t2, by omega, by go_num, rfl, rfl, nm0', nm1', t20, t21, HBWc, HE⟩
                        case measure => simp [intOf]; omega
                  · have hn : nm' = nm := by rw [HNM.out, if_neg he]
                    have hei : (yl == (g.terms.length : Int) + nm) = false := by simp [he]
                    subst hn
                    clear HNM
                    go_wp2_with fail
                    clear x0 x1
                    go_loopw [8, 11, 12] (fun tv jv _ wi => ∃ (j : Nat) (t2 : Int), j ≤ yr.length ∧ jv = .int .i64 j ∧ tv = .int .i64 t2 ∧ 0 ≤ t2 ∧ t2 ≤ g.terms.length ∧ wi = wc ∧ Hid (Gr.dS g.terms.length g.names.length t2 (yr.drop j) = Gr.dS g.terms.length g.names.length tm yr)) (fun _ jv _ _ => yr.length - (intOf jv).toNat)
                    case atStart => exact ⟨0, tm, Nat.zero_le _, rfl, rfl, tm0, tm1, rfl, by show _ = _; rw [List.drop_zero]⟩
                    case round =>
                      obtain ⟨j, t2, hj, rfl, rfl, t20, t21, rfl, hS⟩ := hrel
                      obtain ⟨x0, x1, _, _⟩ := cells_two_z ((HBc.out.block _ hXV).trans bX.out)
                      by_cases hjl : j < yr.length
                      · have hji : (j : Int) < (yr.length : Int) := by omega
                        obtain ⟨sb, sq, rfl, _, _, s0⟩ := YI.out.get j hjl
                        replace s0 := cell_later HBwc.out s0
                        have HST : Hid (Gr.dS g.terms.length g.names.length tm yr = if yr[j] < 0 ∨ (g.terms.length : Int) + g.names.length ≤ yr[j] ∨ (yr[j] < g.terms.length ∧ t2 < yr[j]) then none else Gr.dS g.terms.length g.names.length (if yr[j] = t2 ∧ yr[j] < g.terms.length then t2 + 1 else t2) (yr.drop (j + 1))) := by
                          show _ = _; rw [← hS.out, List.drop_eq_getElem_cons hjl, Gr.dS]
                        clear hS
                        generalize yr[j] = sv at *
                        have HF : Hid ((sv < 0 ∨ (g.terms.length : Int) + g.names.length ≤ sv ∨ (sv < g.terms.length ∧ t2 < sv)) → r = false) := fun h => by
                          have := HI2.out
                          rw [HST.out, if_pos h] at this
                          exact this.symm
                        by_cases b1 : sv < 0
                        · have R : Hid (r = false) := HF.out (.inl b1)
                          clear HF HST HI2
                          go_wp2_with fail
                          go_ret
                          exact ⟨ret_bool R.out.symm, HBwc.out⟩
                        have b1i : decide (sv < 0) = false := decide_eq_false b1
                        by_cases b2 : (g.terms.length : Int) + g.names.length ≤ sv
                        · have R : Hid (r = false) := HF.out (.inr (.inl b2))
                          clear HF HST HI2
                          go_wp2_with fail
                          go_ret
                          exact ⟨ret_bool R.out.symm, HBwc.out⟩
                        have b2i : decide ((g.terms.length : Int) + (g.names.length : Int) ≤ sv) = false := decide_eq_false b2
                        by_cases b3 : sv < (g.terms.length : Int)
                        · by_cases b4 : t2 < sv
                          · have R : Hid (r = false) := HF.out (.inr (.inr ⟨b3, b4⟩))
                            clear HF HST HI2
                            go_wp2_with fail
                            go_ret
                            exact ⟨ret_bool R.out.symm, HBwc.out⟩
                          · have b4i : decide (t2 < sv) = false := decide_eq_false b4
                            clear HF
                            by_cases b5 : sv = t2
                            · have HS2 : Hid (Gr.dS g.terms.length g.names.length (t2 + 1) (yr.drop (j + 1)) = Gr.dS g.terms.length g.names.length tm yr) := by show _ = _; rw [HST.out, if_neg (by omega), if_pos ⟨b5, b3⟩]
                              clear HST
                              subst b5
                              go_wp2_with fail
                              go_roundw
                              case rel => exact ⟨j + 1, sv + 1, by omega, by go_num, rfl, by omega, by omega, by trivial, HS2⟩
                              case measure => simp [intOf]; omega
                            · have HS2 : Hid (Gr.dS g.terms.length g.names.length t2 (yr.drop (j + 1)) = Gr.dS g.terms.length g.names.length tm yr) := by show _ = _; rw [HST.out, if_neg (by omega), if_neg (by omega)]
                              have b5i : (sv == t2) = false := by simp [b5]
                              clear HST
                              go_wp2_with fail
                              go_roundw
                              case rel => exact ⟨j + 1, t2, by omega, by go_num, rfl, by omega, by omega, by trivial, HS2⟩
                              case measure => simp [intOf]; omega
                        · have HS2 : Hid (Gr.dS g.terms.length g.names.length t2 (yr.drop (j + 1)) = Gr.dS g.terms.length g.names.length tm yr) := by show _ = _; rw [HST.out, if_neg (by omega), if_neg (by omega)]
                          have b3i : decide (sv < (g.terms.length : Int)) = false := decide_eq_false b3
                          clear HST HF
                          by_cases b5 : sv = t2
                          · have b5i : (sv == t2) = true := by simp [b5]
                            go_wp2_with fail
                            go_roundw
                            case rel => exact ⟨j + 1, t2, by omega, by go_num, rfl, by omega, by omega, by trivial, HS2⟩
                            case measure => simp [intOf]; omega
                          · have b5i : (sv == t2) = false := by simp [b5]
                            go_wp2_with fail
                            go_roundw
                            case rel => exact ⟨j + 1, t2, by omega, by go_num, rfl, by omega, by omega, by trivial, HS2⟩
                            case measure => simp [intOf]; omega
                      · have HE : Hid (Gr.dR g.terms.length g.names.length (g.rules.take (k3 + 1)) nm' t2 (g.rules.drop (k3 + 1)) = r) := by
                          show _ = _
                          have h1 := HI2.out
                          rw [← hS.out, List.drop_of_length_le (by omega), Gr.dS] at h1
                          exact h1
                        have hji : ¬ (j : Int) < (yr.length : Int) := by omega
                        clear HI2 hS
                        go_wp2_with fail
                        go_roundw
                        case rel => exact ⟨k3 + 1, nm', t2, by omega, by go_num, rfl, rfl, nm0', nm1', t20, t21, HBWc, HE⟩
                        case measure => simp [intOf]; omega
              · have R : Hid (r = false) := by show _ = _; rw [← hI.out, if_pos (.inr (.inr (.inr (.inr (Gr.has_yes hh)))))]
                have HH1 : Hid (∀ (W' : World), Below w.heap.size w W' → _) := fun W' hW' => HHAS.out true W' hW' (by omega) hh
                clear hI HHAS hh
                refine wp_region_later (by kernel_rfl) (by kernel_rfl) ?_
                repeat (first | go_big_quiet_step (first | (go_at_call 33; exact Calls.later_of (HH1.out _ (HB1.out.trans (Below.mono (Later.h _) HB1.out.size))))) | quiet_step (first | (go_at_call 33; exact Calls.later_of (HH1.out _ (HB1.out.trans (Below.mono (Later.h _) HB1.out.size))))))
                refine wpQuiet_nil ?_
                intro _ hw'
                obtain ⟨pq, hw''⟩ := hw'
                subst hw''
                go_wp2_with fail
                go_ret
                exact ⟨ret_bool R.out.symm, HB1.out.trans (pq.h.mono HB1.out.size)⟩
            · have R : Hid ((decide (nm = (g.names.length : Int)) && decide (tm = (g.terms.length : Int))) = r) := by show _ = _; rw [← hI.out, List.drop_of_length_le (by omega)]; rfl
              have hki : ¬ (k3 : Int) < (g.rules.length : Int) := by omega
              clear hI
              by_cases e1 : nm = (g.names.length : Int)
              · subst e1
                by_cases e2 : tm = (g.terms.length : Int)
                · subst e2
                  have R2 : Hid (r = true) := by show _ = _; rw [← R.out]; simp
                  clear R
                  go_wp2_with fail
                  go_ret
                  exact ⟨ret_bool R2.out.symm, HBr.out⟩
                · have R2 : Hid (r = false) := by show _ = _; rw [← R.out]; simp [e2]
                  have e2i : (tm == (g.terms.length : Int)) = false := by simp [e2]
                  clear R
                  go_wp2_with fail
                  go_ret
                  exact ⟨ret_bool R2.out.symm, HBr.out⟩
              · have R2 : Hid (r = false) := by show _ = _; rw [← R.out]; simp [e1]
                have e1i : (nm == (g.names.length : Int)) = false := by simp [e1]
                clear R
                go_wp2_with fail
                go_ret
                exact ⟨ret_bool R2.out.symm, HBr.out⟩
end Go.Proofs.Ytdocbgfpnaiijaa
