/-
  The document's own Rule and Text of layer 4: they come to the same as the program's.
-/
import Derived.Test.YtnphfhoknnnciaaShText
import Derived.Test.YtnphfhoknnnciaaGrRefGood
import Derived.Test.YtnphfhoknnnciaaGrOwn
namespace Go.Proofs.Ytnphfhoknnnciaa.Sh
open Go.Proofs.Ytnphfhoknnnciaa.Gr
/-- a good grammar's symbols: a rule's left side is no terminal; of those of its right side the ones below the terminals' number are terminals -/
theorem rule_syms {g : Gm} (h : good g = true) (r : Rl) (hr : r ∈ g.rules) : isT g r.1 = false ∧ ∀ s ∈ r.2, isT g s = decide (s < (g.terms.length : Int)) := by
  obtain ⟨k, hk, rfl⟩ := List.getElem_of_mem hr
  have := (each_get (good_parts h).2.2.2.1 k hk).1
  simp only [fits, isN, Bool.and_eq_true, decide_eq_true_eq, List.all_eq_true, Bool.or_eq_true] at this
  refine ⟨decide_eq_false (by omega), fun s hs => ?_⟩
  have := this.2 s hs
  unfold isT at this ⊢
  rw [decide_eq_true_eq] at this
  exact decide_eq_decide.2 (by omega)
end Go.Proofs.Ytnphfhoknnnciaa.Sh

namespace Go.Proofs.Ytnphfhoknnnciaa
open Go.RowKit

theorem field_text (x : ByteArray) (b : Bool) (w : World) : (Instr.field 40 (.agg #[.string x, .bool b]) 0).run Try.prog w = .ok (.string x) w := by kernel_rfl
theorem field_line (x : ByteArray) (b : Bool) (w : World) : (Instr.field 49 (.agg #[.string x, .bool b]) 0).run Try.prog w = .ok (.string x) w := by kernel_rfl

theorem blk_at {w w' : World} {b : Nat} {o : Obj} (h : w.heap[b]? = some o) (hb : Below w.heap.size w w') : w'.heap[b]? = some o := by
  rw [hb.block _ (Array.getElem?_eq_some_iff.1 h).1]; exact h

set_option maxRecDepth 100000 in
set_option maxHeartbeats 6400000 in
theorem refRule_is (g : Gr.Gm) (A : GA) (i n : Int) (s : ByteArray) (w : World) (l1 : g.terms.length ≤ 4000) (l2 : g.names.length ≤ 4000) (hm : ∀ x ∈ g.rules, x.2.length ≤ maxLen) (h : GmAt w.heap.size w g A) (hr : Sh.line g i = (n, s)) :
    Calls Try.prog 23 #[.agg (gmCells g A), .int .i64 i] w fun e w' => e = .returned (.agg #[.string s, .bool (n == 0)]) ∧ Below w.heap.size w w' := by
  obtain ⟨ta, tc, na, nc, ra, rc⟩ := A
  have HG : Hid (GmAt w.heap.size w g ⟨ta, tc, na, nc, ra, rc⟩) := h
  have hbW : Hid (Below w.heap.size w ((w.alloc (Obj.cells #[.slice ta g.terms.length tc, .slice na g.names.length nc, .slice ra g.rules.length rc] 25)).alloc (Obj.cells #[.string ⟨#[]⟩, .bool false] 49))) := ((Below.refl _ w).alloc (Nat.le_refl _) _).alloc (by simp) _
  have b0 : Hid (((w.alloc (Obj.cells #[.slice ta g.terms.length tc, .slice na g.names.length nc, .slice ra g.rules.length rc] 25)).alloc (Obj.cells #[.string ⟨#[]⟩, .bool false] 49)).heap[w.heap.size]? = some (.cells #[.slice ta g.terms.length tc, .slice na g.names.length nc, .slice ra g.rules.length rc] 25 (0, 0))) := by
    show _ = _; rw [Below.heap_alloc _ _ _ (by simp)]; exact heap_alloc_new w _
  have b1 : Hid (((w.alloc (Obj.cells #[.slice ta g.terms.length tc, .slice na g.names.length nc, .slice ra g.rules.length rc] 25)).alloc (Obj.cells #[.string ⟨#[]⟩, .bool false] 49)).heap[w.heap.size + 1]? = some (.cells #[.string ⟨#[]⟩, .bool false] 49 (0, 0))) := by
    show _ = _
    have := heap_alloc_new (w.alloc (Obj.cells #[.slice ta g.terms.length tc, .slice na g.names.length nc, .slice ra g.rules.length rc] 25)) (Obj.cells #[.string ⟨#[]⟩, .bool false] 49)
    simpa using this
  have HRG : Hid (∀ (r : Bool) (W : World), Below w.heap.size w W → Gr.good g = r → Calls Try.prog 17 #[.agg (gmCells g ⟨ta, tc, na, nc, ra, rc⟩)] W fun e w' => e = .returned (.bool r) ∧ Below W.heap.size W w') := fun r W hW hg => refGood_any r g _ W hm (h.later hW).size ((Gr.refGood_is g).trans hg)
  have HR : Hid (Sh.line g i = (n, s)) := hr
  have HRN : Hid (∀ (y : Int) (W : World), Below w.heap.size w W → Calls Try.prog 14 #[.agg (gmCells g ⟨ta, tc, na, nc, ra, rc⟩), .int .i64 y] W fun e w' => e = .returned (.agg #[.string (Gr.name g y).1, .bool (Gr.name g y).2]) ∧ Below W.heap.size W w') := fun y W hW => refName_any _ _ g _ y W ⟨l1, l2⟩ (h.later hW).size rfl
  cases hg : Gr.good g
  · have E : Hid (n = 16 ∧ s = ⟨#[]⟩) := by
      have := HR.out
      unfold Sh.line at this
      rw [if_pos hg] at this
      cases this; exact ⟨rfl, rfl⟩
    obtain ⟨rfl, rfl⟩ := E.out
    have HG1 : Hid (∀ (W : World), Below w.heap.size w W → _) := fun W hW => HRG.out false W hW hg
    simp only [gmCells] at HG1 ⊢
    clear h hr hm HRG hg E HR HRN
    go_enter Try.func23, Try.ntmps23
    go_wp2_with (go_at_call 17; fail)
    generalize ((w.alloc (Obj.cells #[.slice ta g.terms.length tc, .slice na g.names.length nc, .slice ra g.rules.length rc] 25)).alloc (Obj.cells #[.string ⟨#[]⟩, .bool false] 49)) = W at *
    refine (HG1.out _ hbW.out).mono ?_
    rintro e w1 ⟨rfl, hb1⟩
    have HB1 : Hid (Below w.heap.size w w1) := hbW.out.trans (hb1.mono hbW.out.size)
    obtain ⟨r0, r1, z0, z1⟩ := cells_two_z (blk_at b1.out hb1)
    have hz : w.heap.size + 1 < w1.heap.size := (Array.getElem?_eq_some_iff.1 (blk_at b1.out hb1)).1
    go_wp2_with fail
    refine bodyPost_ret (v := .agg #[.string ⟨#[]⟩, .bool false]) (by simp [results, Try.results23, go_sem, r0, r1]) rfl ⟨rfl, ?_⟩
    exact (HB1.out.setCell (by exact Nat.le_succ _) _).setCell (by exact Nat.le_succ _) _
  · have HG1 : Hid (∀ (W : World), Below w.heap.size w W → _) := fun W hW => HRG.out true W hW hg
    simp only [gmCells] at HG1 HRN ⊢
    by_cases hin : 0 ≤ i ∧ i < (g.rules.length : Int)
    · obtain ⟨k, rfl⟩ : ∃ k : Nat, i = (k : Int) := ⟨i.toNat, by omega⟩
      have hk : k < g.rules.length := by omega
      have hki : (k : Int) < (g.rules.length : Int) := by omega
      have E : Hid (n = 0 ∧ s = Sh.ruleT g g.rules[k]) := by
        have := HR.out
        unfold Sh.line at this
        rw [if_neg (by rw [hg]; simp), if_pos hin] at this
        cases this; exact ⟨rfl, by rw [Int.toNat_natCast, List.getD_eq_getElem?_getD, List.getElem?_eq_getElem hk]; rfl⟩
      obtain ⟨rfl, rfl⟩ := E.out
      obtain ⟨rb, ro, yo, yc, hra, _, _, y0, y1, yI, _⟩ := HG.out.rules k hk
      simp only at hra
      subst hra
      have h8k := fits_right (Gr.good_parts hg).2.2.2.1 _ (List.getElem_mem hk)
      have HSY : Hid _ := Sh.rule_syms hg _ (List.getElem_mem hk)
      have HNZ : Hid (∀ q, (Gr.name g q).1.size ≤ 4000) := fun q => by have := (Sh.name_size hg q).1; omega
      have HY : Hid (IntsAt w.heap.size w yo g.rules[k].2) := yI
      clear HR E yI
      generalize g.rules[k] = y at *
      obtain ⟨yl, yr⟩ := y
      simp only at y0 y1 HY h8k HSY
      have HYC : Hid (w.cell? ⟨rb, ro + k * 2, none⟩ = some (.int .i64 yl) ∧ w.cell? ⟨rb, ro + k * 2 + 1, none⟩ = some (.slice yo yr.length yc)) := ⟨y0, y1⟩
      have HRT : Hid (Sh.ruleT g (yl, yr) = Sh.symsT g ((Gr.name g yl).1 ++ ⟨#[32, 61]⟩) yr) := by
        show _ = _; unfold Sh.ruleT Sh.symT; rw [HSY.out.1]; rfl
      obtain ⟨want, HW⟩ : ∃ want, Hid (Sh.symsT g ((Gr.name g yl).1 ++ ⟨#[32, 61]⟩) yr = want) := ⟨_, rfl⟩
      rw [HRT.out, HW.out]
      have q1 : decide ((k : Int) < 0) = false := decide_eq_false (by omega)
      have q2 : decide ((g.rules.length : Int) ≤ (k : Int)) = false := decide_eq_false (by omega)
      have q3 : decide (g.rules.length ≤ k) = false := decide_eq_false (by omega)
      clear y0 y1 h hr hm HRG hg hin HRT
      go_enter Try.func23, Try.ntmps23
      go_wp2_with (go_at_call 17; fail)
      generalize ((w.alloc (Obj.cells #[.slice ta g.terms.length tc, .slice na g.names.length nc, .slice (some ⟨rb, ro, none⟩) g.rules.length rc] 25)).alloc (Obj.cells #[.string ⟨#[]⟩, .bool false] 49)) = W at *
      refine (HG1.out _ hbW.out).mono ?_
      rintro e w1 ⟨rfl, hb1⟩
      have HB1 : Hid (Below w.heap.size w w1) := hbW.out.trans (hb1.mono hbW.out.size)
      have k0 : Hid _ := blk_at b0.out hb1
      have k1 : Hid _ := blk_at b1.out hb1
      have hz : w.heap.size + 1 < w1.heap.size := (Array.getElem?_eq_some_iff.1 k1.out).1
      clear hb1 b0 b1 hbW HG1
      obtain ⟨g0, g1, g2, _⟩ := cells_three_z k0.out
      have y0 := cell_later HB1.out HYC.out.1
      have hns := HNZ.out yl
      have HN1 : Hid (∀ W : World, Below w.heap.size w W → _) := fun W hW => HRN.out yl W hW
      generalize Gr.name g yl = nm at *
      obtain ⟨nx, nk⟩ := nm
      simp only at hns HN1 HW
      go_upto_region 3 with fail
      have HS : Hid (∀ w2, Lat w1.drew w2 → Below w1.heap.size w1 w2) := fun w2 hL => hL.of_drew
      refine wp_region_lat [.val (.agg #[.slice ta g.terms.length tc, .slice na g.names.length nc, .slice (some ⟨rb, ro, none⟩) g.rules.length rc]), .val (.pointer (some ⟨w.heap.size, 2, none⟩)), .val (.slice (some ⟨rb, ro, none⟩) g.rules.length rc), .val (.int .i64 k), .val (.pointer (some ⟨rb, ro + k * 2, none⟩)), .val (.pointer (some ⟨rb, ro + k * 2, none⟩)), .val (.int .i64 yl), .val (.agg #[.string nx, .bool nk]), .val (.string nx), .val (.string (nx ++ ⟨#[32, 61]⟩))] [_] (by kernel_rfl) (by kernel_rfl) rfl trivial ?walk
      case walk =>
        refine wpFacts_val (by rfl) (fun w2 hL hd K hK => ?_) ?_
        · have c0 := cell_later (HS.out w2 hL) g0
          have c1 := cell_later (HS.out w2 hL) g1
          have c2 := cell_later (HS.out w2 hL) g2
          go_simp
          exact hK _ (Lat.refl _)
        refine wpFacts_norm (by simp only [Act.put, List.setIfInBounds_toArray, List.set_cons_zero, List.set_cons_succ]; rfl) (by simp only [List.nil_append]; rfl) ?_
        refine wpFacts_val (by rfl) (fun w1 hL hd K hK => ?_) ?_
        · go_simp
          exact hK _ (Lat.refl _)
        refine wpFacts_norm (by simp only [Act.put, List.setIfInBounds_toArray, List.set_cons_zero, List.set_cons_succ]; rfl) (by simp only [List.cons_append, List.nil_append]; rfl) ?_
        refine wpFacts_val (by rfl) (fun w2 hL hd K hK => ?_) ?_
        · have c2 := cell_later (HS.out w2 hL) g2
          go_simp
          exact hK _ (Lat.refl _)
        refine wpFacts_norm (by simp only [Act.put, List.setIfInBounds_toArray, List.set_cons_zero, List.set_cons_succ]; rfl) (by simp only [List.cons_append, List.nil_append]; rfl) ?_
        refine wpFacts_val (by rfl) (fun w1 hL hd K hK => ?_) ?_
        · go_simp
          exact hK _ (Lat.refl _)
        refine wpFacts_norm (by simp only [Act.put, List.setIfInBounds_toArray, List.set_cons_zero, List.set_cons_succ]; rfl) (by simp only [List.cons_append, List.nil_append]; rfl) ?_
        refine wpFacts_val (by rfl) (fun w1 hL hd K hK => ?_) ?_
        · go_simp
          exact hK _ (Lat.refl _)
        refine wpFacts_norm (by simp only [Act.put, List.setIfInBounds_toArray, List.set_cons_zero, List.set_cons_succ]; rfl) (by simp only [List.cons_append, List.nil_append]; rfl) ?_
        refine wpFacts_val (by rfl) (fun w1 hL hd K hK => ?_) ?_
        · go_simp
          exact hK _ (Lat.refl _)
        refine wpFacts_norm (by simp only [Act.put, List.setIfInBounds_toArray, List.set_cons_zero, List.set_cons_succ]; rfl) (by simp only [List.cons_append, List.nil_append]; rfl) ?_
        refine wpFacts_val (by rfl) (fun w2 hL hd K hK => ?_) ?_
        · have c2 := cell_later (HS.out w2 hL) y0
          go_simp
          exact hK _ (Lat.refl _)
        refine wpFacts_norm (by simp only [Act.put, List.setIfInBounds_toArray, List.set_cons_zero, List.set_cons_succ]; rfl) (by simp only [List.cons_append, List.nil_append]; rfl) ?_
        refine wpFacts_val (by rfl) (fun w2 hL hd K hK => ?_) ?_
        · go_simp
          go_at_call 14
          refine (HN1.out w2 (HB1.out.trans (Below.mono (HS.out w2 hL) HB1.out.size))).mono ?_
          rintro e w3 ⟨rfl, hb3⟩
          exact hK _ hb3
        refine wpFacts_norm (by simp only [Act.put, List.setIfInBounds_toArray, List.set_cons_zero, List.set_cons_succ]; rfl) (by simp only [List.cons_append, List.nil_append]; rfl) ?_
        refine wpFacts_val (by rfl) (fun w1 hL hd K hK => ?_) ?_
        · go_simp
          exact hK _ (Lat.refl _)
        refine wpFacts_norm (by simp only [Act.put, List.setIfInBounds_toArray, List.set_cons_zero, List.set_cons_succ]; rfl) (by simp only [List.cons_append, List.nil_append]; rfl) ?_
        refine wpFacts_val (by rfl) (fun w2 hL hd K hK => ?_) ?_
        · go_simp
          rw [if_neg (by omega), Oper.upon_value]
          exact hK _ (Lat.refl _)
        refine wpFacts_norm (by simp only [Act.put, List.setIfInBounds_toArray, List.set_cons_zero, List.set_cons_succ]; rfl) (by simp only [List.cons_append, List.nil_append]; rfl) ?_
        intro w3 hL ha
        clear ha
        have hB5 : Hid (Below w1.heap.size w1 w3) := HS.out w3 hL
        clear hL HS HN1 g0 g1 g2 y0
        go_wp2_with fail
        have hsz0 : ∀ m, (Sh.symsT g (nx ++ ⟨#[32, 61]⟩) (yr.take m)).size ≤ 4002 + m * 4003 := fun m => by
          have := Sh.symsT_size g (nx ++ ⟨#[32, 61]⟩) yr HNZ.out m
          rw [Sh.size_app, show (⟨#[32, 61]⟩ : ByteArray).size = 2 from rfl] at this
          omega
        have HS0 : Hid _ := hsz0
        clear hsz0
        go_loopw [5, 6] (fun v i wq => ∃ m : Nat, m ≤ yr.length ∧ v = .string (Sh.symsT g (nx ++ ⟨#[32, 61]⟩) (yr.take m)) ∧ i = .int .i64 m ∧ Hid (Below w1.heap.size w1 wq)) (fun _ i _ => yr.length - (intOf i).toNat)
        case atStart => exact ⟨0, Nat.zero_le _, rfl, rfl, hB5⟩
        case round =>
          obtain ⟨m, hmy, rfl, rfl, hb⟩ := hrel
          clear hB5
          have HBr : Hid (Below w.heap.size w wr) := HB1.out.trans (hb.out.mono HB1.out.size)
          obtain ⟨g0, g1, g2, _⟩ := cells_three_z (blk_at k0.out hb.out)
          have y1 := cell_later HBr.out HYC.out.2
          have hszm := HS0.out m
          by_cases hml : m < yr.length
          · have hmi : (m : Int) < (yr.length : Int) := by omega
            obtain ⟨sb, so, rfl, _, _, s0⟩ := IntsAt.get HY.out m hml
            replace s0 := cell_later HBr.out s0
            have HSP2 : Hid _ := Sh.symsT_step g (nx ++ ⟨#[32, 61]⟩) yr m hml
            have HIT : Hid _ := HSY.out.2 yr[m] (List.getElem_mem hml)
            generalize yr[m] = sy at *
            have hns2 := HNZ.out sy
            generalize Sh.symsT g (nx ++ ⟨#[32, 61]⟩) (yr.take m) = acc at *
            have HN2 : Hid (∀ W : World, Below w.heap.size w W → _) := fun W hW => HRN.out sy W hW
            have HST : Hid (Sh.symT g sy = if Gr.isT g sy then ⟨#[39]⟩ ++ (Gr.name g sy).1 ++ ⟨#[39]⟩ else (Gr.name g sy).1) := by show _ = _; rfl
            rw [HIT.out] at HST
            generalize Gr.name g sy = nm2 at *
            obtain ⟨nx2, nk2⟩ := nm2
            simp only at hns2 HN2 HST
            go_wp2_with (go_at_call 14; fail)
            refine (HN2.out _ HBr.out).mono ?_
            rintro e w3 ⟨rfl, hb3⟩
            have hb13 : Hid (Below w1.heap.size w1 w3) := hb.out.trans (hb3.mono hb.out.size)
            clear hb3 g0 g1 g2 y1 s0
            obtain ⟨g0, g1, g2, _⟩ := cells_three_z (blk_at k0.out hb13.out)
            by_cases hlt : sy < (g.terms.length : Int)
            · have HST2 : Hid (Sh.symT g sy = ⟨#[39]⟩ ++ nx2 ++ ⟨#[39]⟩) := by show _ = _; rw [HST.out, decide_eq_true hlt]; rfl
              rw [HST2.out] at HSP2
              go_wp2_with fail
              rw [field_text]
              simp only [Result.andThen]
              rw [Oper.upon_value]
              go_wp2_with fail
              go_roundw
              case rel => exact ⟨m + 1, by omega, by rw [HSP2.out], by go_num, hb13⟩
              case measure => simp [intOf]; omega
            · have hld : decide (sy < (g.terms.length : Int)) = false := decide_eq_false hlt
              have HST2 : Hid (Sh.symT g sy = nx2) := by show _ = _; rw [HST.out, hld]; rfl
              rw [HST2.out] at HSP2
              go_wp2_with fail
              rw [field_text]
              simp only [Result.andThen]
              rw [Oper.upon_value]
              go_wp2_with fail
              go_roundw
              case rel => exact ⟨m + 1, by omega, by rw [HSP2.out], by go_num, hb13⟩
              case measure => simp [intOf]; omega
          · have HKE : Hid (yr.take m = yr) := by show _ = _; rw [List.take_of_length_le (by omega)]
            rw [HKE.out] at hszm ⊢
            obtain ⟨r0, r1, z0, z1⟩ := cells_two_z (blk_at k1.out hb.out)
            have hzr : w.heap.size + 1 < wr.heap.size := Nat.lt_of_lt_of_le hz hb.out.size
            rw [HW.out] at hszm ⊢
            go_wp2_with fail
            refine bodyPost_ret (v := .agg #[.string want, .bool true]) (by simp [results, Try.results23, go_sem, r0, r1]) rfl ⟨rfl, ?_⟩
            exact (HBr.out.setCell (by exact Nat.le_succ _) _).setCell (by exact Nat.le_succ _) _
    · have E : Hid (n = 1 ∧ s = ⟨#[]⟩) := by
        have := HR.out
        unfold Sh.line at this
        rw [if_neg (by rw [hg]; simp), if_neg hin] at this
        cases this; exact ⟨rfl, rfl⟩
      obtain ⟨rfl, rfl⟩ := E.out
      clear h hr hm HRG hg E HR HRN
      by_cases hi0 : i < 0
      · clear hin
        go_enter Try.func23, Try.ntmps23
        go_wp2_with (go_at_call 17; fail)
        generalize ((w.alloc (Obj.cells #[.slice ta g.terms.length tc, .slice na g.names.length nc, .slice ra g.rules.length rc] 25)).alloc (Obj.cells #[.string ⟨#[]⟩, .bool false] 49)) = W at *
        refine (HG1.out _ hbW.out).mono ?_
        rintro e w1 ⟨rfl, hb1⟩
        have HB1 : Hid (Below w.heap.size w w1) := hbW.out.trans (hb1.mono hbW.out.size)
        obtain ⟨g0, g1, g2, _⟩ := cells_three_z (blk_at b0.out hb1)
        obtain ⟨r0, r1, z0, z1⟩ := cells_two_z (blk_at b1.out hb1)
        have hz : w.heap.size + 1 < w1.heap.size := (Array.getElem?_eq_some_iff.1 (blk_at b1.out hb1)).1
        go_wp2_with fail
        refine bodyPost_ret (v := .agg #[.string ⟨#[]⟩, .bool false]) (by simp [results, Try.results23, go_sem, r0, r1]) rfl ⟨rfl, ?_⟩
        exact (HB1.out.setCell (by exact Nat.le_succ _) _).setCell (by exact Nat.le_succ _) _
      · have hi1 : decide (i < 0) = false := decide_eq_false hi0
        have hi2 : (g.rules.length : Int) ≤ i := by omega
        clear hin hi0
        go_enter Try.func23, Try.ntmps23
        go_wp2_with (go_at_call 17; fail)
        generalize ((w.alloc (Obj.cells #[.slice ta g.terms.length tc, .slice na g.names.length nc, .slice ra g.rules.length rc] 25)).alloc (Obj.cells #[.string ⟨#[]⟩, .bool false] 49)) = W at *
        refine (HG1.out _ hbW.out).mono ?_
        rintro e w1 ⟨rfl, hb1⟩
        have HB1 : Hid (Below w.heap.size w w1) := hbW.out.trans (hb1.mono hbW.out.size)
        obtain ⟨g0, g1, g2, _⟩ := cells_three_z (blk_at b0.out hb1)
        obtain ⟨r0, r1, z0, z1⟩ := cells_two_z (blk_at b1.out hb1)
        have hz : w.heap.size + 1 < w1.heap.size := (Array.getElem?_eq_some_iff.1 (blk_at b1.out hb1)).1
        go_wp2_with fail
        refine bodyPost_ret (v := .agg #[.string ⟨#[]⟩, .bool false]) (by simp [results, Try.results23, go_sem, r0, r1]) rfl ⟨rfl, ?_⟩
        exact (HB1.out.setCell (by exact Nat.le_succ _) _).setCell (by exact Nat.le_succ _) _
end Go.Proofs.Ytnphfhoknnnciaa
