/-
  Layer 3 (grammar): namesInOrder, termsInOrder, Name. Layer 3 (grammar): termsInOrder.
  Layer 3 (grammar): Good: whether any grammar may be.
-/
import Derived.Test.YtdocbgfpnaiijaaGrGood2
import Derived.Test.YtdocbgfpnaiijaaGrGood3
namespace Go.Proofs.Ytdocbgfpnaiijaa
open Go.RowKit

/-- append of a number onto a row of numbers -/
theorem wpList_append_oint {ops : Array Oper} {rest : List Oper} {o : Oper} {a : Act} {Q : Exit → Act → World → Prop} {w : World} (hw : Region.wanted o (yielded ops a.tmps) = true) (s x : Operand)
    (ho : o.op = .call { callee := .builtin .append, args := #[s, x], argTypes := #[29, 29] }) (base : Nat) (v : Value) (xs : List Int) (hs : a.eval s = v) (hown : OwnInts base w v xs)
    (b c : Nat) (u : Int) (hx : a.eval x = .slice (some ⟨b, 0, none⟩) 1 c) (hnews : w.cell? ⟨b, 0, none⟩ = some (.int .i64 u))
    (hb : xs.length + 1 ≤ 2000) (hbase : base ≤ w.heap.size)
    (h : ∀ g cap w', OwnInts base w' (.slice (some ⟨g, 0, none⟩) (xs.length + 1) cap) (xs ++ [u]) → w.grownBy w' v.ownBlock → wpList Try.prog ops Q rest (a.put o.dst (.slice (some ⟨g, 0, none⟩) (xs.length + 1) cap)) w') : wpList Try.prog ops Q (o :: rest) a w := by
  refine wpList_append_int hw s x ho base v xs.length (xs.map (.int .i64)) hs hown ⟨b, 0, none⟩ c (.int .i64 u) hx ?_ rfl hb hbase (fun g cap w' h2 h3 => h g cap w' ?_ h3)
  · intro j y hj
    cases j with
    | zero => simp at hj; subst hj; simpa [addr_zero_add] using hnews
    | succ j => simp at hj
  · unfold OwnInts; rw [List.length_append, List.map_append]; exact h2

set_option maxHeartbeats 1600000 in
theorem namesInOrder_is (r : Bool) (g : Gr.Gm) (A : GA) (w : World) (h1 : g.terms.length ≤ 4000 ∧ g.names.length ≤ 4000) (h2 : g.rules.length ≤ 1000) (h : GmAt w.heap.size w g A) (hr : Gr.inOrder (g.rules.map (·.1)) g.terms.length ((g.terms.length : Int) + g.names.length) = r) :
    Calls Try.prog 63 #[.agg (gmCells g A)] w fun e w' => e = .returned (.bool r) ∧ Below w.heap.size w w' := by
  have HR : Hid (RlsAt w.heap.size w A.ra g.rules) := h.rules
  have HI : Hid _ := hr
  clear h hr
  unfold gmCells at *
  have hbW : Hid (Below w.heap.size w (w.alloc (Obj.cells #[.slice A.ta g.terms.length A.tc, .slice A.na g.names.length A.nc, .slice A.ra g.rules.length A.rc] 25))) := (Below.refl _ w).alloc (Nat.le_refl _) _
  have B0 : Hid ((w.alloc (Obj.cells #[.slice A.ta g.terms.length A.tc, .slice A.na g.names.length A.nc, .slice A.ra g.rules.length A.rc] 25)).heap[w.heap.size]? = some (.cells #[.slice A.ta g.terms.length A.tc, .slice A.na g.names.length A.nc, .slice A.ra g.rules.length A.rc] 25 (0, 0))) := heap_alloc_new w _
  have hWs : Hid ((w.alloc (Obj.cells #[.slice A.ta g.terms.length A.tc, .slice A.na g.names.length A.nc, .slice A.ra g.rules.length A.rc] 25)).heap.size = w.heap.size + 1) := by show _ = _; simp
  go_enter Try.func63, Try.ntmps63
  go_wp2_with fail
  generalize (w.alloc (Obj.cells #[.slice A.ta g.terms.length A.tc, .slice A.na g.names.length A.nc, .slice A.ra g.rules.length A.rc] 25)) = W at *
  go_loopw [3, 9] (fun v i wr => ∃ (q : Nat) (xo : Option Addr) (xc : Nat), q ≤ g.rules.length ∧ i = .int .i64 q ∧ v = .slice xo q xc ∧ Hid (OwnInts W.heap.size wr (.slice xo q xc) ((g.rules.take q).map (·.1))) ∧ Hid (Below W.heap.size W wr)) (fun _ i _ => g.rules.length - (intOf i).toNat)
  case atStart => exact ⟨0, none, 0, Nat.zero_le _, rfl, rfl, World.ownsRow_nil _ _ _ _, Below.refl _ _⟩
  case round =>
    obtain ⟨q, xo, xc, hq, rfl, rfl, ho, hb⟩ := hrel
    have hszz := hb.out.size
    rw [hWs.out] at hszz
    have HQ : Hid (((g.rules.take q).map (·.1)).length = q) := by show _ = _; rw [List.length_map, List.length_take]; omega
    by_cases hlt : q < g.rules.length
    · obtain ⟨b, o, ro, rc, hao, hbb, _, k0, k1, ki, _⟩ := HR.out q hlt
      replace k0 := cell_later hb.out (cell_later hbW.out k0)
      replace k1 := cell_later hb.out (cell_later hbW.out k1)
      have HK : Hid ((g.rules.take (q + 1)).map (·.1) = (g.rules.take q).map (·.1) ++ [g.rules[q].1]) := by show _ = _; rw [List.take_add_one, List.getElem?_eq_getElem hlt, List.map_append]; rfl
      clear ki
      generalize g.rules[q] = y at *
      obtain ⟨yl, yr⟩ := y
      simp only at k0 k1 HK
      generalize (g.rules.take q).map (·.1) = xs at *
      have hxl : xs.length + 1 ≤ 2000 := by rw [HQ.out]; omega
      have hb2 : Hid (Below wr.heap.size wr ((wr.alloc (Obj.cells #[.int .i64 yl, .slice ro yr.length rc] 31)).alloc (Obj.cells #[.int .i64 yl] 3))) := ((Below.refl _ wr).alloc (Nat.le_refl _) _).alloc (by simp) _
      have HO2 : Hid (OwnInts W.heap.size ((wr.alloc (Obj.cells #[.int .i64 yl, .slice ro yr.length rc] 31)).alloc (Obj.cells #[.int .i64 yl] 3)) (.slice xo q xc) xs) := ownsRow_below ho.out hb2.out
      have hbase : W.heap.size ≤ ((wr.alloc (Obj.cells #[.int .i64 yl, .slice ro yr.length rc] 31)).alloc (Obj.cells #[.int .i64 yl] 3)).heap.size := Nat.le_trans hb.out.size hb2.out.size
      rw [hao] at *
      go_wp2_with (first
        | (at_builtin; refine wpList_append_oint rfl _ _ rfl W.heap.size _ xs rfl HO2.out (wr.heap.size + 1) 1 yl rfl (by simp [go_sem]) hxl hbase ?_; intro ga cap w3 ho3 hg3))
      have HB3 : Hid (Below W.heap.size W w3) := (hb.out.trans (hb2.out.mono hb.out.size)).grown hg3 hbase (fun k hk => (HO2.out.lt k hk).1)
      have HO3 : Hid (OwnInts W.heap.size w3 (.slice (some ⟨ga, 0, none⟩) (q + 1) cap) ((g.rules.take (q + 1)).map (·.1))) := by rw [HK.out]; rw [HQ.out] at ho3; exact ho3
      clear ho3 hg3 k0 k1
      rw [HQ.out]
      go_roundw
      case rel => exact ⟨q + 1, _, _, by omega, by go_num, rfl, HO3, HB3⟩
      case measure => simp [intOf]; omega
    · have HK : Hid ((g.rules.take q).map (·.1) = g.rules.map (·.1)) := by show _ = _; rw [List.take_of_length_le (by omega)]
      rw [HK.out] at ho HQ
      obtain ⟨g0, g1, g2, _⟩ := cells_three_z ((hb.out.block _ (by rw [hWs.out]; omega)).trans B0.out)
      have hz0 : w.heap.size < wr.heap.size := by omega
      have HCO : Hid (∀ _ : Unit, _) := fun _ => by
        obtain ⟨_, _, hv, hrd, _⟩ := OwnInts.read ho.out
        rw [HQ.out] at hv
        cases hv
        have := comeInOrder_is r (g.rules.map (·.1)) (by rw [HQ.out]; omega) g.terms.length ((g.terms.length : Int) + g.names.length) (by omega) xo xc wr hrd HI.out
        rw [HQ.out] at this
        exact this
      clear HI HQ HK ho
      go_wp2_with (first | (go_at_call 86; refine (HCO.out ()).mono ?_; rintro e w3 ⟨rfl, rfl⟩))
      go_ret
      exact ⟨rfl, hbW.out.trans (hb.out.mono hbW.out.size)⟩
end Go.Proofs.Ytdocbgfpnaiijaa

namespace Go.Proofs.Ytdocbgfpnaiijaa
open Go.RowKit

set_option maxHeartbeats 3200000 in
theorem termsInOrder_is (r : Bool) (g : Gr.Gm) (A : GA) (w : World) (h2 : g.rules.length ≤ 100) (h8 : ∀ x ∈ g.rules, x.2.length ≤ 8) (h : GmAt w.heap.size w g A) (hr : Gr.inOrder (Gr.seen g) 0 g.terms.length = r) :
    Calls Try.prog 64 #[.agg (gmCells g A)] w fun e w' => e = .returned (.bool r) ∧ Below w.heap.size w w' := by
  have HR : Hid (RlsAt w.heap.size w A.ra g.rules) := h.rules
  have HI : Hid (Gr.inOrder (g.rules.flatMap (fun x => x.2.filter (Gr.isT g))) 0 g.terms.length = r) := hr
  have H8 : Hid _ := h8
  have HT : Hid (∀ (b : Bool) (s : Int) (W : World), Gr.isT g s = b → Calls Try.prog 87 #[.agg (gmCells g A), .int .i64 s] W fun e w' => e = .returned (.bool b) ∧ Below W.heap.size W w') := fun b s W hb => term_is b g A s W hb
  clear h hr h8
  unfold gmCells at *
  have hbW : Hid (Below w.heap.size w (w.alloc (Obj.cells #[.slice A.ta g.terms.length A.tc, .slice A.na g.names.length A.nc, .slice A.ra g.rules.length A.rc] 25))) := (Below.refl _ w).alloc (Nat.le_refl _) _
  have B0 : Hid ((w.alloc (Obj.cells #[.slice A.ta g.terms.length A.tc, .slice A.na g.names.length A.nc, .slice A.ra g.rules.length A.rc] 25)).heap[w.heap.size]? = some (.cells #[.slice A.ta g.terms.length A.tc, .slice A.na g.names.length A.nc, .slice A.ra g.rules.length A.rc] 25 (0, 0))) := heap_alloc_new w _
  have hWs : Hid ((w.alloc (Obj.cells #[.slice A.ta g.terms.length A.tc, .slice A.na g.names.length A.nc, .slice A.ra g.rules.length A.rc] 25)).heap.size = w.heap.size + 1) := by show _ = _; simp
  go_enter Try.func64, Try.ntmps64
  go_wp2_with fail
  generalize (w.alloc (Obj.cells #[.slice A.ta g.terms.length A.tc, .slice A.na g.names.length A.nc, .slice A.ra g.rules.length A.rc] 25)) = W at *
  go_loopw [3, 11] (fun v i wr => ∃ (q : Nat) (xo : Option Addr) (xc : Nat) (xs : List Int), q ≤ g.rules.length ∧ i = .int .i64 q ∧ v = .slice xo xs.length xc ∧ xs.length ≤ q * 8 ∧ Hid (xs = (g.rules.take q).flatMap (fun x => x.2.filter (Gr.isT g))) ∧ Hid (OwnInts W.heap.size wr (.slice xo xs.length xc) xs) ∧ Hid (Below W.heap.size W wr)) (fun _ i _ => g.rules.length - (intOf i).toNat)
  case atStart => exact ⟨0, none, 0, [], Nat.zero_le _, rfl, rfl, by simp, by show _ = _; simp, World.ownsRow_nil _ _ _ _, Below.refl _ _⟩
  case round =>
    obtain ⟨q, xo, xc, xs, hq, rfl, rfl, hxl, hxs, ho, hb⟩ := hrel
    have hszz := hb.out.size
    rw [hWs.out] at hszz
    by_cases hlt : q < g.rules.length
    · obtain ⟨b, o, ro, rc, hao, hbb, _, k0, k1, ki, _⟩ := HR.out q hlt
      replace k0 := cell_later hb.out (cell_later hbW.out k0)
      replace k1 := cell_later hb.out (cell_later hbW.out k1)
      have HK : Hid ((g.rules.take (q + 1)).flatMap (fun x => x.2.filter (Gr.isT g)) = xs ++ g.rules[q].2.filter (Gr.isT g)) := by show _ = _; rw [Gr.seen_step _ _ _ hlt, hxs.out]
      have h8q := H8.out g.rules[q] (List.getElem_mem hlt)
      have KI : Hid (IntsAt w.heap.size w ro g.rules[q].2) := ki
      clear ki hxs
      generalize g.rules[q] = y at *
      obtain ⟨yl, yr⟩ := y
      simp only at k0 k1 HK h8q KI
      have hb2 : Hid (Below wr.heap.size wr (wr.alloc (Obj.cells #[.int .i64 yl, .slice ro yr.length rc] 31))) := (Below.refl _ wr).alloc (Nat.le_refl _) _
      rw [hao] at *
      go_wp2_with fail
      have HO2 : Hid (OwnInts W.heap.size (wr.alloc (Obj.cells #[.int .i64 yl, .slice ro yr.length rc] 31)) (.slice xo xs.length xc) xs) := ownsRow_below ho.out hb2.out
      have HB2 : Hid (Below W.heap.size W (wr.alloc (Obj.cells #[.int .i64 yl, .slice ro yr.length rc] 31))) := hb.out.trans (hb2.out.mono hb.out.size)
      clear k0 k1
      go_loopw [3, 18] (fun v i wq => ∃ (k : Nat) (zo : Option Addr) (zc : Nat) (zs : List Int), k ≤ yr.length ∧ i = .int .i64 k ∧ v = .slice zo zs.length zc ∧ zs.length ≤ q * 8 + k ∧ Hid (zs = xs ++ (yr.take k).filter (Gr.isT g)) ∧ Hid (OwnInts W.heap.size wq (.slice zo zs.length zc) zs) ∧ Hid (Below W.heap.size W wq)) (fun _ i _ => yr.length - (intOf i).toNat)
      case atStart => exact ⟨0, xo, xc, xs, Nat.zero_le _, rfl, rfl, by omega, by show _ = _; simp, HO2, HB2⟩
      case round =>
        obtain ⟨k, zo, zc, zs, hk, rfl, rfl, hzl, hzs, hzo, hzb⟩ := hrel
        clear HO2 HB2 hb2
        have hszq := hzb.out.size
        rw [hWs.out] at hszq
        by_cases hkl : k < yr.length
        · obtain ⟨bb, oo, hro, hbb2, _, c0⟩ := KI.out.get k hkl
          replace c0 := cell_later hzb.out (cell_later hbW.out c0)
          have FS : Hid _ := Gr.filter_step (Gr.isT g) yr k hkl
          generalize yr[k] = u at *
          obtain ⟨g0, g1, g2, _⟩ := cells_three_z ((hzb.out.block _ (by rw [hWs.out]; omega)).trans B0.out)
          have hz0 : w.heap.size < wr.heap.size := by omega
          cases ht : Gr.isT g u
          · have R : Hid (zs = xs ++ (yr.take (k + 1)).filter (Gr.isT g)) := by show _ = _; rw [FS.out, ht, hzs.out]; simp
            have HC2 : Hid (∀ (W : World), _) := fun W => HT.out _ u W ht
            clear FS ht hzs
            rw [hro] at *
            go_wp2_with fail
            refine (HC2.out _).mono ?_
            rintro e w2 ⟨rfl, hb3⟩
            have HB3 : Hid (Below W.heap.size W w2) := hzb.out.trans (hb3.mono hzb.out.size)
            have HO3 : Hid (OwnInts W.heap.size w2 (.slice zo zs.length zc) zs) := ownsRow_below hzo.out hb3
            clear g0 g1 g2 c0 hb3
            go_wp2_with fail
            go_roundw
            case rel => exact ⟨k + 1, _, _, zs, by omega, by go_num, rfl, by omega, R, HO3, HB3⟩
            case measure => simp [intOf]; omega
          · have R : Hid (zs ++ [u] = xs ++ (yr.take (k + 1)).filter (Gr.isT g)) := by show _ = _; rw [FS.out, ht, hzs.out]; simp
            have HC2 : Hid (∀ (W : World), _) := fun W => HT.out _ u W ht
            clear FS ht hzs
            rw [hro] at *
            go_wp2_with fail
            refine (HC2.out _).mono ?_
            rintro e w2 ⟨rfl, hb3⟩
            have HB3 : Hid (Below W.heap.size W (w2.alloc (Obj.cells #[.int .i64 u] 3))) := (hzb.out.trans (hb3.mono hzb.out.size)).alloc (by have := hzb.out.size; have := hb3.size; omega) _
            have HO3 : Hid (OwnInts W.heap.size (w2.alloc (Obj.cells #[.int .i64 u] 3)) (.slice zo zs.length zc) zs) := ownsRow_below (ownsRow_below hzo.out hb3) ((Below.refl _ _).alloc (Nat.le_refl _) _)
            clear g0 g1 g2 c0 hb3
            go_wp2_with (first
              | (at_builtin; refine wpList_append_oint rfl _ _ rfl W.heap.size _ zs rfl HO3.out w2.heap.size 1 u rfl (by simp [go_sem]) (by omega) HB3.out.size ?_; intro ga cap w3 ho3 hg3))
            have HB4 : Hid (Below W.heap.size W w3) := HB3.out.grown hg3 HB3.out.size (fun k hk => (HO3.out.lt k hk).1)
            have HO4 : Hid (OwnInts W.heap.size w3 (.slice (some ⟨ga, 0, none⟩) (zs ++ [u]).length cap) (zs ++ [u])) := by rw [List.length_append]; exact ho3
            clear ho3 hg3
            go_roundw
            case rel => exact ⟨k + 1, _, _, zs ++ [u], by omega, by go_num, by rw [List.length_append]; rfl, by rw [List.length_append, List.length_singleton]; omega, R, HO4, HB4⟩
            case measure => simp [intOf]; omega
        · have R : Hid (zs = (g.rules.take (q + 1)).flatMap (fun x => x.2.filter (Gr.isT g))) := by show _ = _; rw [HK.out, hzs.out, List.take_of_length_le (by omega)]
          clear hzs HK
          go_wp2_with fail
          go_roundw
          case rel => exact ⟨q + 1, _, _, zs, by omega, by go_num, rfl, by omega, R, hzo, hzb⟩
          case measure => simp [intOf]; omega
    · have HK : Hid (xs = g.rules.flatMap (fun x => x.2.filter (Gr.isT g))) := by show _ = _; rw [hxs.out, List.take_of_length_le (by omega)]
      rw [← HK.out] at HI
      obtain ⟨g0, g1, g2, _⟩ := cells_three_z ((hb.out.block _ (by rw [hWs.out]; omega)).trans B0.out)
      have hz0 : w.heap.size < wr.heap.size := by omega
      have HCO : Hid (∀ _ : Unit, _) := fun _ => by
        obtain ⟨_, _, hv, hrd, _⟩ := OwnInts.read ho.out
        cases hv
        exact comeInOrder_is r xs (by omega) 0 g.terms.length ⟨Int.le_refl _, by omega⟩ xo xc wr hrd HI.out
      clear HI HK ho hxs
      go_wp2_with (first | (go_at_call 86; refine (HCO.out ()).mono ?_; rintro e w3 ⟨rfl, rfl⟩))
      go_ret
      exact ⟨rfl, hbW.out.trans (hb.out.mono hbW.out.size)⟩
end Go.Proofs.Ytdocbgfpnaiijaa

namespace Go.Proofs.Ytdocbgfpnaiijaa
open Go.RowKit

theorem fits_right {g : Gr.Gm} (h : Gr.each (Gr.fits g) g.rules = true) : ∀ x ∈ g.rules, x.2.length ≤ 8 := fun x hx => by
  obtain ⟨k, hk, rfl⟩ := List.getElem_of_mem hx
  have := (Gr.each_get h k hk).1
  simp only [Gr.fits, Bool.and_eq_true, decide_eq_true_eq] at this
  exact this.1.2

set_option maxRecDepth 100000 in
set_option maxHeartbeats 3200000 in
theorem good_is (r : Bool) (g : Gr.Gm) (A : GA) (w : World) (hm : ∀ x ∈ g.rules, x.2.length ≤ maxLen) (h : GmAt w.heap.size w g A) (hr : Gr.good g = r) :
    Calls Try.prog 40 #[.agg (gmCells g A)] w fun e w' => e = .returned (.bool r) ∧ Below w.heap.size w w' := by
  have HR : Hid (Gr.good g = r) := hr
  obtain ⟨ta, tc, na, nc, ra, rc⟩ := A
  have HG : Hid (GmAt w.heap.size w g ⟨ta, tc, na, nc, ra, rc⟩) := h
  have HM : Hid _ := hm
  have HS : Hid (∀ (b : Bool) (W : World), Gr.sizes g = b → Calls Try.prog 58 #[.agg (gmCells g ⟨ta, tc, na, nc, ra, rc⟩)] W fun e w' => e = .returned (.bool b) ∧ Below W.heap.size W w') := fun b W hb => sizesFit_is b g _ W hb
  have hbW : Hid (Below w.heap.size w (w.alloc (Obj.cells #[.slice ta g.terms.length tc, .slice na g.names.length nc, .slice ra g.rules.length rc] 25))) := (Below.refl _ w).alloc (Nat.le_refl _) _
  have B0 : Hid ((w.alloc (Obj.cells #[.slice ta g.terms.length tc, .slice na g.names.length nc, .slice ra g.rules.length rc] 25)).heap[w.heap.size]? = some (.cells #[.slice ta g.terms.length tc, .slice na g.names.length nc, .slice ra g.rules.length rc] 25 (0, 0))) := heap_alloc_new w _
  have hWs : Hid ((w.alloc (Obj.cells #[.slice ta g.terms.length tc, .slice na g.names.length nc, .slice ra g.rules.length rc] 25)).heap.size = w.heap.size + 1) := by show _ = _; simp
  clear h hr hm
  simp only [gmCells] at HS ⊢
  cases hs : Gr.sizes g
  · have R : Hid (r = false) := by show _ = _; rw [← HR.out]; simp [Gr.good, hs]
    go_enter Try.func40, Try.ntmps40
    go_wp2_with fail
    refine (HS.out _ _ hs).mono ?_
    rintro e w1 ⟨rfl, hb1⟩
    go_wp2_with fail
    go_ret
    exact ⟨ret_bool R.out.symm, hbW.out.trans (hb1.mono hbW.out.size)⟩
  · have hsz := of_decide_eq_true hs
    have h14 : g.terms.length ≤ 4000 ∧ g.names.length ≤ 4000 := ⟨by omega, by omega⟩
    have HNF : Hid (∀ (b : Bool) (W : World), Below w.heap.size w W → Gr.each (fun s => Lx.isName s.data.toList) g.names = b → Calls Try.prog 59 #[.slice na g.names.length nc, .func (.func 60) #[] #[]] W fun e w' => e = .returned (.bool b) ∧ w' = W) :=
      fun b W hW hb => namesFit_is b g.names (by omega) HG.out.ntext na nc HG.out.ncap W (HG.out.names.later hW).size hb
    have HTF : Hid (∀ (b : Bool) (W : World), Below w.heap.size w W → Gr.each (fun s => Lx.isTerm s.data.toList) g.terms = b → Calls Try.prog 59 #[.slice ta g.terms.length tc, .func (.func 61) #[] #[]] W fun e w' => e = .returned (.bool b) ∧ w' = W) :=
      fun b W hW hb => termsFit_is b g.terms (by omega) HG.out.ttext ta tc HG.out.tcap W (HG.out.terms.later hW).size hb
    have HRF : Hid (∀ (b : Bool) (W : World), Below w.heap.size w W → Gr.each (Gr.fits g) g.rules = b → Calls Try.prog 62 #[.agg (gmCells g ⟨ta, tc, na, nc, ra, rc⟩)] W fun e w' => e = .returned (.bool b) ∧ Below W.heap.size W w') :=
      fun b W hW hb => rulesFit_is b g _ W h14 (by omega) HM.out (HG.out.later hW).size hb
    have HNO : Hid (∀ (b : Bool) (W : World), Below w.heap.size w W → Gr.inOrder (g.rules.map (·.1)) g.terms.length ((g.terms.length : Int) + g.names.length) = b → Calls Try.prog 63 #[.agg (gmCells g ⟨ta, tc, na, nc, ra, rc⟩)] W fun e w' => e = .returned (.bool b) ∧ Below W.heap.size W w') :=
      fun b W hW hb => namesInOrder_is b g _ W h14 (by omega) (HG.out.later hW).size hb
    have HTO : Hid (Gr.each (Gr.fits g) g.rules = true → ∀ (b : Bool) (W : World), Below w.heap.size w W → Gr.inOrder (Gr.seen g) 0 g.terms.length = b → Calls Try.prog 64 #[.agg (gmCells g ⟨ta, tc, na, nc, ra, rc⟩)] W fun e w' => e = .returned (.bool b) ∧ Below W.heap.size W w') :=
      fun h8 b W hW hb => termsInOrder_is b g _ W (by omega) (fits_right h8) (HG.out.later hW).size hb
    simp only [gmCells] at HRF HNO HTO
    clear hsz h14
    have HCS : Hid (∀ W : World, _) := fun W => HS.out true W hs
    clear HS
    go_enter Try.func40, Try.ntmps40
    go_wp2_with fail
    generalize (w.alloc (Obj.cells #[.slice ta g.terms.length tc, .slice na g.names.length nc, .slice ra g.rules.length rc] 25)) = W at *
    refine (HCS.out _).mono ?_
    rintro e w1 ⟨rfl, hb1⟩
    have HB1 : Hid (Below w.heap.size w w1) := hbW.out.trans (hb1.mono hbW.out.size)
    have B1 : Hid (w1.heap[w.heap.size]? = some (.cells #[.slice ta g.terms.length tc, .slice na g.names.length nc, .slice ra g.rules.length rc] 25 (0, 0))) := (hb1.block _ (by rw [hWs.out]; omega)).trans B0.out
    have hz1 : w.heap.size < w1.heap.size := by have := hb1.size; rw [hWs.out] at this; omega
    obtain ⟨g0, g1, g2, _⟩ := cells_three_z B1.out
    clear hb1 B0 hbW HCS
    cases hn : Gr.each (fun s => Lx.isName s.data.toList) g.names
    · have R : Hid (r = false) := by show _ = _; rw [← HR.out]; simp [Gr.good, hs, hn]
      have HC : Hid (∀ _ : Unit, _) := fun _ => HNF.out _ w1 HB1.out hn
      clear HNF HTF HRF HNO HTO hs hn HR
      go_wp2_with (first | (go_at_call 59; refine (HC.out ()).mono ?_; rintro e w2 ⟨rfl, rfl⟩))
      go_ret
      exact ⟨ret_bool R.out.symm, HB1.out⟩
    · have HC : Hid (∀ _ : Unit, _) := fun _ => HNF.out _ w1 HB1.out hn
      cases ht : Gr.each (fun s => Lx.isTerm s.data.toList) g.terms
      · have R : Hid (r = false) := by show _ = _; rw [← HR.out]; simp [Gr.good, hs, hn, ht]
        have HC2 : Hid (∀ _ : Unit, _) := fun _ => HTF.out _ w1 HB1.out ht
        clear HNF HTF HRF HNO HTO hs hn ht HR
        go_wp2_with (first | (go_at_call 59; refine (HC.out ()).mono ?_; rintro e w2 ⟨rfl, rfl⟩; clear HC) | (go_at_call 59; refine (HC2.out ()).mono ?_; rintro e w2 ⟨rfl, rfl⟩))
        go_ret
        exact ⟨ret_bool R.out.symm, HB1.out⟩
      · have HC2 : Hid (∀ _ : Unit, _) := fun _ => HTF.out _ w1 HB1.out ht
        cases hf : Gr.each (Gr.fits g) g.rules
        · have R : Hid (r = false) := by show _ = _; rw [← HR.out]; simp [Gr.good, hs, hn, ht, hf]
          have HC3 : Hid (∀ _ : Unit, _) := fun _ => HRF.out _ w1 HB1.out hf
          clear HNF HTF HRF HNO HTO hs hn ht hf HR
          go_wp2_with (first | (go_at_call 59; refine (HC.out ()).mono ?_; rintro e w2 ⟨rfl, rfl⟩; clear HC) | (go_at_call 59; refine (HC2.out ()).mono ?_; rintro e w2 ⟨rfl, rfl⟩) | (go_at_call 62; refine (HC3.out ()).mono ?_; rintro e w3 ⟨rfl, hb3⟩))
          go_ret
          exact ⟨ret_bool R.out.symm, HB1.out.trans (hb3.mono HB1.out.size)⟩
        · have HC3 : Hid (∀ _ : Unit, _) := fun _ => HRF.out _ w1 HB1.out hf
          have HTO' : Hid _ := HTO.out hf
          clear HTO
          go_wp2_with (first | (go_at_call 59; refine (HC.out ()).mono ?_; rintro e w2 ⟨rfl, rfl⟩; clear HC) | (go_at_call 59; refine (HC2.out ()).mono ?_; rintro e w2 ⟨rfl, rfl⟩) | (go_at_call 62; fail))
          refine (HC3.out ()).mono ?_
          rintro e w3 ⟨rfl, hb3⟩
          have HB3 : Hid (Below w.heap.size w w3) := HB1.out.trans (hb3.mono HB1.out.size)
          have B3 : Hid (w3.heap[w.heap.size]? = some (.cells #[.slice ta g.terms.length tc, .slice na g.names.length nc, .slice ra g.rules.length rc] 25 (0, 0))) := (hb3.block _ hz1).trans B1.out
          have hz3 : w.heap.size < w3.heap.size := Nat.lt_of_lt_of_le hz1 hb3.size
          clear g0 g1 g2 hb3 B1
          obtain ⟨g0, g1, g2, _⟩ := cells_three_z B3.out
          cases ho : Gr.inOrder (g.rules.map (·.1)) g.terms.length ((g.terms.length : Int) + g.names.length)
          · have R : Hid (r = false) := by show _ = _; rw [← HR.out]; simp [Gr.good, hs, hn, ht, hf, ho]
            have HC4 : Hid (∀ _ : Unit, _) := fun _ => HNO.out _ w3 HB3.out ho
            clear HNF HTF HRF HNO HTO' hs hn ht hf ho HR
            go_wp2_with (first | (go_at_call 63; refine (HC4.out ()).mono ?_; rintro e w4 ⟨rfl, hb4⟩))
            go_ret
            exact ⟨ret_bool R.out.symm, HB3.out.trans (hb4.mono HB3.out.size)⟩
          · have HC4 : Hid (∀ _ : Unit, _) := fun _ => HNO.out _ w3 HB3.out ho
            have HE : Hid (Gr.inOrder (Gr.seen g) 0 g.terms.length = r) := by show _ = _; rw [← HR.out]; simp [Gr.good, hs, hn, ht, hf, ho]
            clear HNF HTF HRF HNO hs hn ht hf ho HR
            go_wp2_with (first | (go_at_call 63; fail))
            refine (HC4.out ()).mono ?_
            rintro e w4 ⟨rfl, hb4⟩
            have HB4 : Hid (Below w.heap.size w w4) := HB3.out.trans (hb4.mono HB3.out.size)
            have B4 : Hid (w4.heap[w.heap.size]? = some (.cells #[.slice ta g.terms.length tc, .slice na g.names.length nc, .slice ra g.rules.length rc] 25 (0, 0))) := (hb4.block _ hz3).trans B3.out
            have HC5 : Hid (∀ _ : Unit, _) := fun _ => HTO'.out _ w4 HB4.out HE.out
            clear g0 g1 g2 hb4 B3 HTO' HC4
            obtain ⟨g0, g1, g2, _⟩ := cells_three_z B4.out
            go_wp2_with (first | (go_at_call 64; refine (HC5.out ()).mono ?_; rintro e w5 ⟨rfl, hb5⟩))
            go_ret
            exact ⟨rfl, HB4.out.trans (hb5.mono HB4.out.size)⟩
end Go.Proofs.Ytdocbgfpnaiijaa
