/-
  The law GrammarMay's own 'is': is a rule that alternative?
-/
import Derived.Test.YtimjopaedfefmaaGrGood5
import Derived.Test.YtimjopaedfefmaaGrQuiet
import Derived.Deep.DeepCutAuto
namespace Go.Proofs.Ytimjopaedfefmaa.Gr
open Go.Proofs.Ytimjopaedfefmaa.Rd

/-- is a symbol that token's? -/
def symAt (g : Gm) (s : Int) (t : Tk) : Bool := (name g s).2 && decide ((name g s).1 = t.text) && (isT g s == decide (t.kind = 2))
def symsAt (g : Gm) : List Int → List Tk → Bool
  | s :: ss, t :: ts => symAt g s t && symsAt g ss ts
  | _, _ => true
/-- is a rule that alternative? -/
def altAt (g : Gm) (x : Rl) (l : ByteArray) (ts : List Tk) : Bool := (name g x.1).2 && decide ((name g x.1).1 = l) && !isT g x.1 && decide (x.2.length = ts.length) && symsAt g x.2 ts
end Go.Proofs.Ytimjopaedfefmaa.Gr

namespace Go.Proofs.Ytimjopaedfefmaa
open Go.RowKit

set_option maxRecDepth 100000 in
set_option maxHeartbeats 8000000 in
theorem is_is (r : Bool) (g : Gr.Gm) (A : GA) (q : Nat) (hq : q < g.rules.length) (l : ByteArray) (ao : Option Addr) (c : Nat) (ts : List Rd.Tk) (w : World) (h1 : g.terms.length ≤ 4000 ∧ g.names.length ≤ 4000 ∧ g.rules.length ≤ 4000) (hl : ts.length ≤ 2000) (h8 : g.rules[q].2.length ≤ 4000)
    (ht : ∀ s ∈ g.terms, s.size ≤ 281474976710656) (hn : ∀ s ∈ g.names, s.size ≤ 281474976710656) (h : GmAt w.heap.size w g A) (hT : TksAt w.heap.size w ao ts) (hr : Gr.altAt g g.rules[q] l ts = r) :
    Calls Try.prog 13 #[.agg (gmCells g A), .int .i64 q, .string l, .slice ao ts.length c] w fun e w' => e = .returned (.bool r) ∧ Below w.heap.size w w' := by
  obtain ⟨ta, tc, na, nc, ra, rc⟩ := A
  have HG : Hid (GmAt w.heap.size w g ⟨ta, tc, na, nc, ra, rc⟩) := h
  have HTK : Hid (TksAt w.heap.size w ao ts) := hT
  obtain ⟨b, o, ro, rrc, hao, hbb, _, k0, k1, ki, _⟩ := h.rules q hq
  simp only at hao
  subst hao
  have KI : Hid (IntsAt w.heap.size w ro g.rules[q].2) := ki
  have HR : Hid (Gr.altAt g g.rules[q] l ts = r) := hr
  have hr1 := h1.2.2
  have HNM : Hid (∀ (x : ByteArray) (ok : Bool) (s : Int) (W : World), Below w.heap.size w W → Gr.name g s = (x, ok) → Calls Try.prog 27 #[.agg (gmCells g ⟨ta, tc, na, nc, some ⟨b, o, none⟩, rc⟩), .int .i64 s] W fun e w' => e = .returned (.tuple #[.string x, .bool ok]) ∧ Below W.heap.size W w') :=
    fun x ok s W hW hx => name_is x ok g _ s W ⟨h1.1, h1.2.1⟩ ht hn (HG.out.later hW).size hx
  have HTM : Hid (∀ (r : Bool) (s : Int) (W : World), Gr.isT g s = r → Calls Try.prog 28 #[.agg (gmCells g ⟨ta, tc, na, nc, some ⟨b, o, none⟩, rc⟩), .int .i64 s] W fun e w' => e = .returned (.bool r) ∧ Below W.heap.size W w') := fun r s W hx => term_is r g _ s W hx
  simp only [gmCells] at HNM HTM ⊢
  clear h hT ki hr ht hn h1 HG
  have hqi : (q : Int) < (g.rules.length : Int) := by omega
  generalize g.rules[q] = y at *
  obtain ⟨yl, yr⟩ := y
  simp only at k0 k1 KI h8
  obtain ⟨n0, ok0, hn0⟩ : ∃ x ok, Gr.name g yl = (x, ok) := ⟨_, _, rfl⟩
  have HN0 : Hid (∀ (W : World), Below w.heap.size w W → _) := fun W hW => HNM.out n0 ok0 yl W hW hn0
  have hbW : Hid (Below w.heap.size w ((w.alloc (Obj.cells #[.slice ta g.terms.length tc, .slice na g.names.length nc, .slice (some ⟨b, o, none⟩) g.rules.length rc] 26)).alloc (Obj.cells #[.int .i64 yl, .slice ro yr.length rrc] 43))) := ((Below.refl _ w).alloc (Nat.le_refl _) _).alloc (by simp) _
  have b0 : Hid (((w.alloc (Obj.cells #[.slice ta g.terms.length tc, .slice na g.names.length nc, .slice (some ⟨b, o, none⟩) g.rules.length rc] 26)).alloc (Obj.cells #[.int .i64 yl, .slice ro yr.length rrc] 43)).heap[w.heap.size]? = some (.cells #[.slice ta g.terms.length tc, .slice na g.names.length nc, .slice (some ⟨b, o, none⟩) g.rules.length rc] 26 (0, 0))) := by
    show _ = _; rw [Below.heap_alloc _ _ _ (by simp)]; exact heap_alloc_new w _
  have b1 : Hid (((w.alloc (Obj.cells #[.slice ta g.terms.length tc, .slice na g.names.length nc, .slice (some ⟨b, o, none⟩) g.rules.length rc] 26)).alloc (Obj.cells #[.int .i64 yl, .slice ro yr.length rrc] 43)).heap[w.heap.size + 1]? = some (.cells #[.int .i64 yl, .slice ro yr.length rrc] 43 (0, 0))) := by
    show _ = _
    have := heap_alloc_new (w.alloc (Obj.cells #[.slice ta g.terms.length tc, .slice na g.names.length nc, .slice (some ⟨b, o, none⟩) g.rules.length rc] 26)) (Obj.cells #[.int .i64 yl, .slice ro yr.length rrc] 43)
    simpa using this
  have hWs : Hid (((w.alloc (Obj.cells #[.slice ta g.terms.length tc, .slice na g.names.length nc, .slice (some ⟨b, o, none⟩) g.rules.length rc] 26)).alloc (Obj.cells #[.int .i64 yl, .slice ro yr.length rrc] 43)).heap.size = w.heap.size + 2) := by show _ = _; simp
  go_enter Try.func13, Try.ntmps13
  go_wp2_with (go_at_call 27; fail)
  generalize ((w.alloc (Obj.cells #[.slice ta g.terms.length tc, .slice na g.names.length nc, .slice (some ⟨b, o, none⟩) g.rules.length rc] 26)).alloc (Obj.cells #[.int .i64 yl, .slice ro yr.length rrc] 43)) = W at *
  refine (HN0.out _ hbW.out).mono ?_
  rintro e w1 ⟨rfl, hb1⟩
  have HB1 : Hid (Below W.heap.size W w1) := hb1
  have HBw1 : Hid (Below w.heap.size w w1) := hbW.out.trans (hb1.mono hbW.out.size)
  obtain ⟨g0, g1, g2, _⟩ := cells_three_z ((hb1.block _ (by rw [hWs.out]; omega)).trans b0.out)
  obtain ⟨p0, p1, _⟩ := cells_two_z ((hb1.block _ (by rw [hWs.out]; omega)).trans b1.out)
  have HRU : Hid ((ok0 && decide (n0 = l) && !Gr.isT g yl && decide (yr.length = ts.length) && Gr.symsAt g yr ts) = r) := by
    show _ = _; rw [← HR.out]; unfold Gr.altAt; rw [hn0]
  clear hb1 HN0 HR hn0 k0 k1
  cases ok0
  · have R : Hid (r = false) := by show _ = _; rw [← HRU.out]; rfl
    clear HRU HNM HTM
    go_wp2_with fail
    go_ret
    exact ⟨ret_bool R.out.symm, HBw1.out⟩
  · by_cases hnl : n0 = l
    · subst hnl
      cases hT : Gr.isT g yl
      · have HT0 : Hid (∀ W : World, _) := fun W => HTM.out false yl W hT
        by_cases hlen : yr.length = ts.length
        · have R0 : Hid (Gr.symsAt g yr ts = r) := by show _ = _; rw [← HRU.out, hT]; simp [hlen]
          have hne : ((yr.length : Int) != (ts.length : Int)) = false := by simp; omega
          clear HRU hT
          go_wp2_with (go_at_call 28; fail)
          refine (HT0.out _).mono ?_
          rintro e w2 ⟨rfl, hb2⟩
          have HB2 : Hid (Below W.heap.size W w2) := HB1.out.trans (hb2.mono HB1.out.size)
          replace p0 := cell_later hb2 p0
          replace p1 := cell_later hb2 p1
          clear HB1 HBw1 hb2 g0 g1 g2
          go_wp2_with fail
          clear p0 p1
          go_loopw [12] (fun i wr => ∃ k : Nat, k ≤ ts.length ∧ i = .int .i64 k ∧ Hid (Gr.symsAt g (yr.drop k) (ts.drop k) = r) ∧ Hid (Below W.heap.size W wr)) (fun i _ => ts.length - (intOf i).toNat)
          case atStart => exact ⟨0, Nat.zero_le _, rfl, by show _ = _; rw [List.drop_zero, List.drop_zero]; exact R0.out, HB2⟩
          case round =>
            obtain ⟨k, hk, rfl, hE, hb⟩ := hrel
            clear R0 HB2
            by_cases hlt : k < ts.length
            · have hly : k < yr.length := by omega
              have hki : (k : Int) < (yr.length : Int) := by omega
              have hkt : (k : Int) < (ts.length : Int) := by omega
              have hk0 : (0 : Int) ≤ (k : Int) := by omega
              obtain ⟨sb, so, rfl, hsb, _, c0⟩ := KI.out.get k hly
              obtain ⟨tb, tq, rfl, htb, _, t0, t1, t2⟩ := HTK.out k hlt
              have HD : Hid (Gr.symsAt g (yr.drop k) (ts.drop k) = (Gr.symAt g yr[k] ts[k] && Gr.symsAt g (yr.drop (k + 1)) (ts.drop (k + 1)))) := by
                show _ = _; rw [List.drop_eq_getElem_cons hly, List.drop_eq_getElem_cons hlt]; rfl
              rw [HD.out] at hE
              clear HD
              generalize yr[k] = s at *
              generalize ts[k] = t at *
              obtain ⟨tk, tx, tp⟩ := t
              simp only at t0 t1 t2
              have hbr : Hid (Below w.heap.size w wr) := hbW.out.trans (hb.out.mono hbW.out.size)
              have HC : Hid (w.cell? ⟨sb, so + k, none⟩ = some (.int .i64 s) ∧ w.cell? ⟨tb, tq + k * 3, none⟩ = some (.int .i64 tk) ∧ w.cell? ⟨tb, tq + k * 3 + 1, none⟩ = some (.string tx)) := ⟨c0, t0, t1⟩
              replace c0 := cell_later hbr.out c0
              replace t0 := cell_later hbr.out t0
              replace t1 := cell_later hbr.out t1
              obtain ⟨g0, g1, g2, _⟩ := cells_three_z ((hb.out.block _ (by rw [hWs.out]; omega)).trans b0.out)
              obtain ⟨p0, p1, _⟩ := cells_two_z ((hb.out.block _ (by rw [hWs.out]; omega)).trans b1.out)
              obtain ⟨x, ok, hx⟩ : ∃ x ok, Gr.name g s = (x, ok) := ⟨_, _, rfl⟩
              have HNx : Hid (∀ (W' : World), Below w.heap.size w W' → _) := fun W' hW' => HNM.out x ok s W' hW' hx
              have HSY : Hid (Gr.symAt g s ⟨tk, tx, tp⟩ = (ok && decide (x = tx) && (Gr.isT g s == decide (tk = 2)))) := by show _ = _; unfold Gr.symAt; rw [hx]
              clear hx t2
              have G0 : ∀ p : Later wr, p.w.cell? ⟨w.heap.size, 0, none⟩ = some (.slice ta g.terms.length tc) := Later.cell g0
              have G1 : ∀ p : Later wr, p.w.cell? ⟨w.heap.size, 1, none⟩ = some (.slice na g.names.length nc) := Later.cell g1
              have G2 : ∀ p : Later wr, p.w.cell? ⟨w.heap.size, 2, none⟩ = some (.slice (some ⟨b, o, none⟩) g.rules.length rc) := Later.cell g2
              have G3 : ∀ p : Later wr, p.w.cell? ⟨w.heap.size + 1, 1, none⟩ = some (.slice (some ⟨sb, so, none⟩) yr.length rrc) := Later.cell p1
              have G4 : ∀ p : Later wr, p.w.cell? ⟨sb, so + k, none⟩ = some (.int .i64 s) := Later.cell c0
              have G5 : ∀ p : Later wr, p.w.cell? ⟨tb, tq + k * 3, none⟩ = some (.int .i64 tk) := Later.cell t0
              have G6 : ∀ p : Later wr, p.w.cell? ⟨tb, tq + k * 3 + 1, none⟩ = some (.string tx) := Later.cell t1
              go_upto_region 8 with fail
              go_cut [13, 14] (fun u v wc => u = .string x ∧ v = .bool ok ∧ Below W.heap.size W wc)
              case first =>
                refine wp_region_later (by kernel_rfl) (by kernel_rfl) ?_
                repeat (quiet_step (first | (go_at_call 27; exact Calls.later_of (HNx.out _ (hbr.out.trans (Below.mono (Later.h _) hbr.out.size))))))
                refine wpQuiet_nil ?_
                intro _ hw'
                obtain ⟨pq, hw''⟩ := hw'
                subst hw''
                go_wp2_with fail
                go_meet
                case rel => exact ⟨rfl, rfl, hb.out.trans (pq.h.mono hb.out.size)⟩
              case rest =>
                obtain ⟨rfl, rfl, hbc⟩ := hcut
                have HBc : Hid (Below W.heap.size W wc) := hbc
                have hbwc : Hid (Below w.heap.size w wc) := hbW.out.trans (hbc.mono hbW.out.size)
                clear c0 t0 t1 g0 g1 g2 p0 p1 hbc HNx hbr hb G0 G1 G2 G3 G4 G5 G6
                have c0 := cell_later hbwc.out HC.out.1
                have t0 := cell_later hbwc.out HC.out.2.1
                have t1 := cell_later hbwc.out HC.out.2.2
                obtain ⟨g0, g1, g2, _⟩ := cells_three_z ((HBc.out.block _ (by rw [hWs.out]; omega)).trans b0.out)
                obtain ⟨p0, p1, _⟩ := cells_two_z ((HBc.out.block _ (by rw [hWs.out]; omega)).trans b1.out)
                have G0 : ∀ p : Later wc, p.w.cell? ⟨w.heap.size, 0, none⟩ = some (.slice ta g.terms.length tc) := Later.cell g0
                have G1 : ∀ p : Later wc, p.w.cell? ⟨w.heap.size, 1, none⟩ = some (.slice na g.names.length nc) := Later.cell g1
                have G2 : ∀ p : Later wc, p.w.cell? ⟨w.heap.size, 2, none⟩ = some (.slice (some ⟨b, o, none⟩) g.rules.length rc) := Later.cell g2
                have G3 : ∀ p : Later wc, p.w.cell? ⟨w.heap.size + 1, 1, none⟩ = some (.slice (some ⟨sb, so, none⟩) yr.length rrc) := Later.cell p1
                have G4 : ∀ p : Later wc, p.w.cell? ⟨sb, so + k, none⟩ = some (.int .i64 s) := Later.cell c0
                have G5 : ∀ p : Later wc, p.w.cell? ⟨tb, tq + k * 3, none⟩ = some (.int .i64 tk) := Later.cell t0
                have G6 : ∀ p : Later wc, p.w.cell? ⟨tb, tq + k * 3 + 1, none⟩ = some (.string tx) := Later.cell t1
                generalize Gr.symAt g s ⟨tk, tx, tp⟩ = sy at *
                go_upto_region 9 with fail
                go_cut [90] (fun v wd => v = .bool (!sy) ∧ Below W.heap.size W wd)
                case first =>
                  cases ok
                  · have e : sy = false := by rw [HSY.out]; rfl
                    subst e
                    clear HSY HNM HTM
                    clear G0 G1 G2 G3 G4 G5 G6
                    go_quiet (fail)
                    go_wp2_with fail
                    go_meet
                    case rel => exact ⟨rfl, below_drewN HBc.out _⟩
                  · by_cases hxt : x = tx
                    · subst hxt
                      have HT1 : Hid (∀ (W' : World), _) := fun W' => HTM.out _ s W' rfl
                      have e : sy = (Gr.isT g s == decide (tk = 2)) := by rw [HSY.out]; simp
                      clear HSY HNM HTM
                      generalize Gr.isT g s = tm at *
                      by_cases hk2 : tk = 2
                      · subst hk2
                        have E : Hid (sy = (tm == decide ((2 : Int) = 2))) := e
                        clear e
                        refine wp_region_later (by kernel_rfl) (by kernel_rfl) ?_
                        repeat (quiet_step (first | (go_at_call 28; exact Calls.later_of (HT1.out _))))
                        refine wpQuiet_nil ?_
                        intro _ hw'
                        obtain ⟨pq, hw''⟩ := hw'
                        subst hw''
                        go_wp2_with fail
                        go_meet
                        case rel => exact ⟨congrArg Value.bool (by rw [E.out]; cases tm <;> rfl), HBc.out.trans (pq.h.mono HBc.out.size)⟩
                      · have hkd : (tk == 2) = false := by simp [hk2]
                        have E : Hid (sy = (tm == false)) := by show _ = _; rw [e, decide_eq_false hk2]
                        clear e hk2
                        refine wp_region_later (by kernel_rfl) (by kernel_rfl) ?_
                        repeat (quiet_step (first | (go_at_call 28; exact Calls.later_of (HT1.out _))))
                        refine wpQuiet_nil ?_
                        intro _ hw'
                        obtain ⟨pq, hw''⟩ := hw'
                        subst hw''
                        go_wp2_with fail
                        go_meet
                        case rel => exact ⟨congrArg Value.bool (by rw [E.out]; cases tm <;> rfl), HBc.out.trans (pq.h.mono HBc.out.size)⟩
                    · have e : sy = false := by rw [HSY.out]; simp [hxt]
                      subst e
                      have hxn := str_ne hxt
                      clear HSY HNM HTM hxt
                      clear G0 G1 G2 G3 G4 G5 G6
                      go_quiet (fail)
                      go_wp2_with fail
                      go_meet
                      case rel => exact ⟨rfl, below_drewN HBc.out _⟩
                case rest =>
                  obtain ⟨rfl, hbd⟩ := hcut
                  have HBd : Hid (Below W.heap.size W wc) := hbd
                  clear hbd HSY
                  cases sy
                  · have R : Hid (r = false) := by show _ = _; rw [← hE.out]; rfl
                    clear hE
                    go_wp2_with fail
                    go_ret
                    exact ⟨ret_bool R.out.symm, hbW.out.trans (HBd.out.mono hbW.out.size)⟩
                  · have R : Hid (Gr.symsAt g (yr.drop (k + 1)) (ts.drop (k + 1)) = r) := by show _ = _; rw [← hE.out]; rfl
                    clear hE
                    go_wp2_with fail
                    go_roundw
                    case rel => exact ⟨k + 1, by omega, by go_num, R, HBd⟩
                    case measure => simp [intOf]; omega
            · have R : Hid (r = true) := by show _ = _; rw [← hE.out, List.drop_of_length_le (by omega), List.drop_of_length_le (by omega)]; rfl
              clear hE
              go_wp2_with fail
              go_ret
              exact ⟨ret_bool R.out.symm, hbW.out.trans (hb.out.mono hbW.out.size)⟩
        · have R : Hid (r = false) := by show _ = _; rw [← HRU.out]; simp [hlen]
          have hne : ((yr.length : Int) != (ts.length : Int)) = true := by simp; omega
          clear HRU hT hlen
          go_wp2_with (go_at_call 28; fail)
          refine (HT0.out _).mono ?_
          rintro e w2 ⟨rfl, hb2⟩
          replace p0 := cell_later hb2 p0
          replace p1 := cell_later hb2 p1
          go_wp2_with fail
          go_ret
          exact ⟨ret_bool R.out.symm, HBw1.out.trans (hb2.mono HBw1.out.size)⟩
      · have HT0 : Hid (∀ W : World, _) := fun W => HTM.out true yl W hT
        have R : Hid (r = false) := by show _ = _; rw [← HRU.out, hT]; simp
        clear HRU hT
        go_wp2_with (go_at_call 28; fail)
        refine (HT0.out _).mono ?_
        rintro e w2 ⟨rfl, hb2⟩
        go_wp2_with fail
        go_ret
        exact ⟨ret_bool R.out.symm, HBw1.out.trans (hb2.mono HBw1.out.size)⟩
    · have R : Hid (r = false) := by show _ = _; rw [← HRU.out]; simp [hnl]
      have hs := str_ne hnl
      clear HRU HNM HTM hnl
      go_wp2_with fail
      go_ret
      exact ⟨ret_bool R.out.symm, HBw1.out⟩
end Go.Proofs.Ytimjopaedfefmaa
