/-
  Layer 3 (grammar): whether a rule fits, whether all do.
-/
import Derived.Test.YtdjjconccneaiaaGreatGrGood
import Derived.Test.YtdjjconccneaiaaGreatGrRules
namespace Go.Proofs.YtdjjconccneaiaaGreat
open Go.RowKit

theorem all_drop_step {p : Int → Bool} (xs : List Int) (k : Nat) (h : k < xs.length) : (xs.drop k).all p = (p xs[k] && (xs.drop (k + 1)).all p) := by
  rw [List.drop_eq_getElem_cons h, List.all_cons]

set_option maxHeartbeats 1600000 in
theorem ruleFits_is (r : Bool) (g : Gr.Gm) (A : GA) (ru : Gr.Rl) (ro : Option Addr) (rc : Nat) (w : World) (h1 : g.terms.length ≤ 4000 ∧ g.names.length ≤ 4000) (hm : ru.2.length ≤ maxLen) (h : IntsAt w.heap.size w ro ru.2) (hr : Gr.fits g ru = r) :
    Calls Tryz.prog 73 #[.agg (gmCells g A), .agg #[.int .i64 ru.1, .slice ro ru.2.length rc]] w fun e w' => e = .returned (.bool r) ∧ Below w.heap.size w w' := by
  obtain ⟨l, xs⟩ := ru
  simp only at hm h ⊢
  have hm' : xs.length ≤ 9223372036854775807 := hm
  have HR : Hid ((Gr.isN g l && decide (xs.length ≤ 8) && xs.all (fun s => Gr.isT g s || Gr.isN g s)) = r) := hr
  have HX : Hid (IntsAt w.heap.size w ro xs) := h
  have HN : Hid (∀ (b : Bool) (s : Int) (W : World), Gr.isN g s = b → Calls Tryz.prog 94 #[.agg (gmCells g A), .int .i64 s] W fun e w' => e = .returned (.bool b) ∧ Below W.heap.size W w') := fun b s W hb => nonterm_is b g A s W h1 hb
  have HT : Hid (∀ (b : Bool) (s : Int) (W : World), Gr.isT g s = b → Calls Tryz.prog 75 #[.agg (gmCells g A), .int .i64 s] W fun e w' => e = .returned (.bool b) ∧ Below W.heap.size W w') := fun b s W hb => term_is b g A s W hb
  clear hr h hm
  unfold gmCells at *
  have hb3 : Hid (Below w.heap.size w ((w.alloc (Obj.cells #[.slice A.ta g.terms.length A.tc, .slice A.na g.names.length A.nc, .slice A.ra g.rules.length A.rc] 25)).alloc (Obj.cells #[.int .i64 l, .slice ro xs.length rc] 45))) := ((Below.refl _ w).alloc (Nat.le_refl _) _).alloc (by simp) _
  cases hn : Gr.isN g l
  · have R : Hid (r = false) := by show _ = _; rw [← HR.out, hn]; rfl
    have HC : Hid (∀ (W : World), _) := fun W => HN.out _ l W hn
    clear HR HT HN hn
    go_enter Tryz.func73, Tryz.ntmps73
    go_wp2_with (first | (go_at_call 94; refine (HC.out _).mono ?_; rintro e w1 ⟨rfl, hb1⟩))
    go_ret
    exact ⟨ret_bool R.out.symm, hb3.out.trans (hb1.mono hb3.out.size)⟩
  · have HC : Hid (∀ (W : World), _) := fun W => HN.out _ l W hn
    have b0 : ((w.alloc (Obj.cells #[.slice A.ta g.terms.length A.tc, .slice A.na g.names.length A.nc, .slice A.ra g.rules.length A.rc] 25)).alloc (Obj.cells #[.int .i64 l, .slice ro xs.length rc] 45)).heap[w.heap.size]? = some (.cells #[.slice A.ta g.terms.length A.tc, .slice A.na g.names.length A.nc, .slice A.ra g.rules.length A.rc] 25 (0, 0)) := by
      rw [Below.heap_alloc _ _ _ (by simp)]; exact heap_alloc_new w _
    have b1 : ((w.alloc (Obj.cells #[.slice A.ta g.terms.length A.tc, .slice A.na g.names.length A.nc, .slice A.ra g.rules.length A.rc] 25)).alloc (Obj.cells #[.int .i64 l, .slice ro xs.length rc] 45)).heap[w.heap.size + 1]? = some (.cells #[.int .i64 l, .slice ro xs.length rc] 45 (0, 0)) := by
      have := heap_alloc_new (w.alloc (Obj.cells #[.slice A.ta g.terms.length A.tc, .slice A.na g.names.length A.nc, .slice A.ra g.rules.length A.rc] 25)) (Obj.cells #[.int .i64 l, .slice ro xs.length rc] 45)
      simpa using this
    have B0 : Hid _ := b0
    have B1 : Hid _ := b1
    clear b0 b1
    by_cases h8 : xs.length ≤ 8
    · have R : Hid (xs.all (fun s => Gr.isT g s || Gr.isN g s) = r) := by show _ = _; rw [← HR.out, hn]; simp [h8]
      clear HR hn
      go_enter Tryz.func73, Tryz.ntmps73
      go_wp2_with fail
      refine (HC.out _).mono ?_
      rintro e w1 ⟨rfl, hb1⟩
      have hW : Hid (((w.alloc (Obj.cells #[.slice A.ta g.terms.length A.tc, .slice A.na g.names.length A.nc, .slice A.ra g.rules.length A.rc] 25)).alloc (Obj.cells #[.int .i64 l, .slice ro xs.length rc] 45)).heap.size = w.heap.size + 2) := by show _ = _; simp
      generalize ((w.alloc (Obj.cells #[.slice A.ta g.terms.length A.tc, .slice A.na g.names.length A.nc, .slice A.ra g.rules.length A.rc] 25)).alloc (Obj.cells #[.int .i64 l, .slice ro xs.length rc] 45)) = W at *
      have hB1 : Hid (Below W.heap.size W w1) := hb1
      obtain ⟨r0, r1, _⟩ := cells_two_z ((hb1.block _ (by rw [hW.out]; omega)).trans B1.out)
      clear hb1
      go_wp2_with fail
      clear r0 r1
      go_loopw [21] (fun i wr => ∃ (q : Nat), q ≤ xs.length ∧ i = .int .i64 q ∧ Hid ((xs.drop q).all (fun s => Gr.isT g s || Gr.isN g s) = r) ∧ Hid (Below W.heap.size W wr)) (fun i _ => xs.length - (intOf i).toNat)
      case atStart => exact ⟨0, Nat.zero_le _, rfl, by show _ = _; rw [List.drop_zero]; exact R.out, hB1⟩
      case round =>
        obtain ⟨q, hq, rfl, hE, hb⟩ := hrel
        have hszz := hb.out.size
        rw [hW.out] at hszz
        by_cases hlt : q < xs.length
        · obtain ⟨bb, oo, rfl, hbb, _, c0⟩ := HX.out.get q hlt
          replace c0 := cell_later hb.out (cell_later hb3.out c0)
          have HD : Hid _ := all_drop_step (p := fun s => Gr.isT g s || Gr.isN g s) xs q hlt
          rw [HD.out] at hE
          generalize xs[q] = x at *
          obtain ⟨g0, g1, g2, _⟩ := cells_three_z ((hb.out.block _ (by rw [hW.out]; omega)).trans B0.out)
          have hz0 : w.heap.size < wr.heap.size := by omega
          clear HD
          cases ht : Gr.isT g x
          · cases hn2 : Gr.isN g x
            · have R2 : Hid (r = false) := by show _ = _; rw [← hE.out, ht, hn2]; rfl
              have HC2 : Hid (∀ (W : World), _) := fun W => HT.out _ x W ht
              have HC3 : Hid (∀ (W : World), _) := fun W => HN.out _ x W hn2
              clear hE ht hn2
              go_wp2_with fail
              refine (HC2.out _).mono ?_
              rintro e w2 ⟨rfl, hb2⟩
              replace g0 := cell_later hb2 g0
              replace g1 := cell_later hb2 g1
              replace g2 := cell_later hb2 g2
              go_wp2_with fail
              refine (HC3.out _).mono ?_
              rintro e w4 ⟨rfl, hb4⟩
              go_wp2_with fail
              go_ret
              exact ⟨ret_bool R2.out.symm, ((hb3.out.trans (hb.out.mono hb3.out.size)).trans (hb2.mono (Nat.le_of_lt hz0))).trans (hb4.mono (by have := hb2.size; omega))⟩
            · have R2 : Hid ((xs.drop (q + 1)).all (fun s => Gr.isT g s || Gr.isN g s) = r) := by show _ = _; rw [← hE.out, ht, hn2]; rfl
              have HC2 : Hid (∀ (W : World), _) := fun W => HT.out _ x W ht
              have HC3 : Hid (∀ (W : World), _) := fun W => HN.out _ x W hn2
              clear hE ht hn2
              go_wp2_with fail
              refine (HC2.out _).mono ?_
              rintro e w2 ⟨rfl, hb2⟩
              replace g0 := cell_later hb2 g0
              replace g1 := cell_later hb2 g1
              replace g2 := cell_later hb2 g2
              go_wp2_with fail
              refine (HC3.out _).mono ?_
              rintro e w4 ⟨rfl, hb4⟩
              have hbf : Hid (Below W.heap.size W w4) := (hb.out.trans (hb2.mono hb.out.size)).trans (hb4.mono (by have := hb2.size; have := hb.out.size; omega))
              clear g0 g1 g2 hb4 hb2
              go_wp2_with fail
              go_roundw
              case rel => exact ⟨q + 1, by omega, by go_num, R2, hbf⟩
              case measure => simp [intOf]; omega
          · have R2 : Hid ((xs.drop (q + 1)).all (fun s => Gr.isT g s || Gr.isN g s) = r) := by show _ = _; rw [← hE.out, ht]; rfl
            have HC2 : Hid (∀ (W : World), _) := fun W => HT.out _ x W ht
            clear hE ht
            go_wp2_with fail
            refine (HC2.out _).mono ?_
            rintro e w2 ⟨rfl, hb2⟩
            have hbf : Hid (Below W.heap.size W w2) := hb.out.trans (hb2.mono hb.out.size)
            clear g0 g1 g2 hb2
            go_wp2_with fail
            go_roundw
            case rel => exact ⟨q + 1, by omega, by go_num, R2, hbf⟩
            case measure => simp [intOf]; omega
        · have R2 : Hid (r = true) := by show _ = _; rw [← hE.out, List.drop_of_length_le (by omega)]; rfl
          clear hE
          go_wp2_with fail
          go_ret
          exact ⟨ret_bool R2.out.symm, hb3.out.trans (hb.out.mono hb3.out.size)⟩
    · have R : Hid (r = false) := by show _ = _; rw [← HR.out, hn]; simp [h8]
      have h8' : (8 : Int) < (xs.length : Int) := by omega
      clear HR hn h8
      go_enter Tryz.func73, Tryz.ntmps73
      go_wp2_with fail
      refine (HC.out _).mono ?_
      rintro e w1 ⟨rfl, hb1⟩
      obtain ⟨r0, r1, _⟩ := cells_two_z ((hb1.block _ (by simp)).trans B1.out)
      go_wp2_with fail
      go_ret
      exact ⟨ret_bool R.out.symm, hb3.out.trans (hb1.mono hb3.out.size)⟩
end Go.Proofs.YtdjjconccneaiaaGreat
