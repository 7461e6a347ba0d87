/-
  Layer 3 (grammar): termsInOrder, Name.
-/
import Derived.Test.YtimjopaedfefmaaGrGood4
namespace Go.Proofs.Ytimjopaedfefmaa
open Go.RowKit

set_option maxHeartbeats 3200000 in
theorem termsInOrder_is (r : Bool) (g : Gr.Gm) (A : GA) (w : World) (h2 : g.rules.length ≤ 100) (h8 : ∀ x ∈ g.rules, x.2.length ≤ 8) (h : GmAt w.heap.size w g A) (hr : Gr.inOrder (Gr.seen g) 0 g.terms.length = r) :
    Calls Try.prog 42 #[.agg (gmCells g A)] w fun e w' => e = .returned (.bool r) ∧ Below w.heap.size w w' := by
  have HR : Hid (RlsAt w.heap.size w A.ra g.rules) := h.rules
  have HI : Hid (Gr.inOrder (g.rules.flatMap (fun x => x.2.filter (Gr.isT g))) 0 g.terms.length = r) := hr
  have H8 : Hid _ := h8
  have HT : Hid (∀ (b : Bool) (s : Int) (W : World), Gr.isT g s = b → Calls Try.prog 28 #[.agg (gmCells g A), .int .i64 s] W fun e w' => e = .returned (.bool b) ∧ Below W.heap.size W w') := fun b s W hb => term_is b g A s W hb
  clear h hr h8
  unfold gmCells at *
  have hbW : Hid (Below w.heap.size w (w.alloc (Obj.cells #[.slice A.ta g.terms.length A.tc, .slice A.na g.names.length A.nc, .slice A.ra g.rules.length A.rc] 26))) := (Below.refl _ w).alloc (Nat.le_refl _) _
  have B0 : Hid ((w.alloc (Obj.cells #[.slice A.ta g.terms.length A.tc, .slice A.na g.names.length A.nc, .slice A.ra g.rules.length A.rc] 26)).heap[w.heap.size]? = some (.cells #[.slice A.ta g.terms.length A.tc, .slice A.na g.names.length A.nc, .slice A.ra g.rules.length A.rc] 26 (0, 0))) := heap_alloc_new w _
  have hWs : Hid ((w.alloc (Obj.cells #[.slice A.ta g.terms.length A.tc, .slice A.na g.names.length A.nc, .slice A.ra g.rules.length A.rc] 26)).heap.size = w.heap.size + 1) := by show _ = _; simp
  go_enter Try.func42, Try.ntmps42
  go_wp2_with fail
  generalize (w.alloc (Obj.cells #[.slice A.ta g.terms.length A.tc, .slice A.na g.names.length A.nc, .slice A.ra g.rules.length A.rc] 26)) = W at *
  go_loopw [3, 11] (fun v i wr => ∃ (q : Nat) (xo : Option Addr) (xc : Nat) (xs : List Int), q ≤ g.rules.length ∧ i = .int .i64 q ∧ v = .slice xo xs.length xc ∧ xs.length ≤ q * 8 ∧ Hid (xs = (g.rules.take q).flatMap (fun x => x.2.filter (Gr.isT g))) ∧ Hid (OwnInts W.heap.size wr (.slice xo xs.length xc) xs) ∧ Hid (Below W.heap.size W wr)) (fun _ i _ => g.rules.length - (intOf i).toNat)
  case atStart => exact ⟨0, none, 0, [], Nat.zero_le _, rfl, rfl, by simp, by show _ = _; simp, World.ownsRow_nil _ _ _ _, Below.refl _ _⟩
  case round =>
    obtain ⟨q, xo, xc, xs, hq, rfl, rfl, hxl, hxs, ho, hb⟩ := hrel
    have hszz := hb.out.size
    rw [hWs.out] at hszz
    by_cases hlt : q < g.rules.length
    · obtain ⟨b, o, ro, rc, hao, hbb, _, k0, k1, ki, _⟩ := HR.out q hlt
      replace k0 := cell_later hb.out (cell_later hbW.out k0)
      replace k1 := cell_later hb.out (cell_later hbW.out k1)
      have HK : Hid ((g.rules.take (q + 1)).flatMap (fun x => x.2.filter (Gr.isT g)) = xs ++ g.rules[q].2.filter (Gr.isT g)) := by show _ = _; rw [Gr.seen_step _ _ _ hlt, hxs.out]
      have h8q := H8.out g.rules[q] (List.getElem_mem hlt)
      have KI : Hid (IntsAt w.heap.size w ro g.rules[q].2) := ki
      clear ki hxs
      generalize g.rules[q] = y at *
      obtain ⟨yl, yr⟩ := y
      simp only at k0 k1 HK h8q KI
      have hb2 : Hid (Below wr.heap.size wr (wr.alloc (Obj.cells #[.int .i64 yl, .slice ro yr.length rc] 43))) := (Below.refl _ wr).alloc (Nat.le_refl _) _
      rw [hao] at *
      go_wp2_with fail
      have HO2 : Hid (OwnInts W.heap.size (wr.alloc (Obj.cells #[.int .i64 yl, .slice ro yr.length rc] 43)) (.slice xo xs.length xc) xs) := ownsRow_below ho.out hb2.out
      have HB2 : Hid (Below W.heap.size W (wr.alloc (Obj.cells #[.int .i64 yl, .slice ro yr.length rc] 43))) := hb.out.trans (hb2.out.mono hb.out.size)
      clear k0 k1
      go_loopw [3, 18] (fun v i wq => ∃ (k : Nat) (zo : Option Addr) (zc : Nat) (zs : List Int), k ≤ yr.length ∧ i = .int .i64 k ∧ v = .slice zo zs.length zc ∧ zs.length ≤ q * 8 + k ∧ Hid (zs = xs ++ (yr.take k).filter (Gr.isT g)) ∧ Hid (OwnInts W.heap.size wq (.slice zo zs.length zc) zs) ∧ Hid (Below W.heap.size W wq)) (fun _ i _ => yr.length - (intOf i).toNat)
      case atStart => exact ⟨0, xo, xc, xs, Nat.zero_le _, rfl, rfl, by omega, by show _ = _; simp, HO2, HB2⟩
      case round =>
        obtain ⟨k, zo, zc, zs, hk, rfl, rfl, hzl, hzs, hzo, hzb⟩ := hrel
        clear HO2 HB2 hb2
        have hszq := hzb.out.size
        rw [hWs.out] at hszq
        by_cases hkl : k < yr.length
        · obtain ⟨bb, oo, hro, hbb2, _, c0⟩ := KI.out.get k hkl
          replace c0 := cell_later hzb.out (cell_later hbW.out c0)
          have FS : Hid _ := Gr.filter_step (Gr.isT g) yr k hkl
          generalize yr[k] = u at *
          obtain ⟨g0, g1, g2, _⟩ := cells_three_z ((hzb.out.block _ (by rw [hWs.out]; omega)).trans B0.out)
          have hz0 : w.heap.size < wr.heap.size := by omega
          cases ht : Gr.isT g u
          · have R : Hid (zs = xs ++ (yr.take (k + 1)).filter (Gr.isT g)) := by show _ = _; rw [FS.out, ht, hzs.out]; simp
            have HC2 : Hid (∀ (W : World), _) := fun W => HT.out _ u W ht
            clear FS ht hzs
            rw [hro] at *
            go_wp2_with fail
            refine (HC2.out _).mono ?_
            rintro e w2 ⟨rfl, hb3⟩
            have HB3 : Hid (Below W.heap.size W w2) := hzb.out.trans (hb3.mono hzb.out.size)
            have HO3 : Hid (OwnInts W.heap.size w2 (.slice zo zs.length zc) zs) := ownsRow_below hzo.out hb3
            clear g0 g1 g2 c0 hb3
            go_wp2_with fail
            go_roundw
            case rel => exact ⟨k + 1, _, _, zs, by omega, by go_num, rfl, by omega, R, HO3, HB3⟩
            case measure => simp [intOf]; omega
          · have R : Hid (zs ++ [u] = xs ++ (yr.take (k + 1)).filter (Gr.isT g)) := by show _ = _; rw [FS.out, ht, hzs.out]; simp
            have HC2 : Hid (∀ (W : World), _) := fun W => HT.out _ u W ht
            clear FS ht hzs
            rw [hro] at *
            go_wp2_with fail
            refine (HC2.out _).mono ?_
            rintro e w2 ⟨rfl, hb3⟩
            have HB3 : Hid (Below W.heap.size W (w2.alloc (Obj.cells #[.int .i64 u] 3))) := (hzb.out.trans (hb3.mono hzb.out.size)).alloc (by have := hzb.out.size; have := hb3.size; omega) _
            have HO3 : Hid (OwnInts W.heap.size (w2.alloc (Obj.cells #[.int .i64 u] 3)) (.slice zo zs.length zc) zs) := ownsRow_below (ownsRow_below hzo.out hb3) ((Below.refl _ _).alloc (Nat.le_refl _) _)
            clear g0 g1 g2 c0 hb3
            go_wp2_with (first
              | (at_builtin; refine wpList_append_oint rfl _ _ rfl W.heap.size _ zs rfl HO3.out w2.heap.size 1 u rfl (by simp [go_sem]) (by omega) HB3.out.size ?_; intro ga cap w3 ho3 hg3))
            have HB4 : Hid (Below W.heap.size W w3) := HB3.out.grown hg3 HB3.out.size (fun k hk => (HO3.out.lt k hk).1)
            have HO4 : Hid (OwnInts W.heap.size w3 (.slice (some ⟨ga, 0, none⟩) (zs ++ [u]).length cap) (zs ++ [u])) := by rw [List.length_append]; exact ho3
            clear ho3 hg3
            go_roundw
            case rel => exact ⟨k + 1, _, _, zs ++ [u], by omega, by go_num, by rw [List.length_append]; rfl, by rw [List.length_append, List.length_singleton]; omega, R, HO4, HB4⟩
            case measure => simp [intOf]; omega
        · have R : Hid (zs = (g.rules.take (q + 1)).flatMap (fun x => x.2.filter (Gr.isT g))) := by show _ = _; rw [HK.out, hzs.out, List.take_of_length_le (by omega)]
          clear hzs HK
          go_wp2_with fail
          go_roundw
          case rel => exact ⟨q + 1, _, _, zs, by omega, by go_num, rfl, by omega, R, hzo, hzb⟩
          case measure => simp [intOf]; omega
    · have HK : Hid (xs = g.rules.flatMap (fun x => x.2.filter (Gr.isT g))) := by show _ = _; rw [hxs.out, List.take_of_length_le (by omega)]
      rw [← HK.out] at HI
      obtain ⟨g0, g1, g2, _⟩ := cells_three_z ((hb.out.block _ (by rw [hWs.out]; omega)).trans B0.out)
      have hz0 : w.heap.size < wr.heap.size := by omega
      have HCO : Hid (∀ _ : Unit, _) := fun _ => by
        obtain ⟨_, _, hv, hrd, _⟩ := OwnInts.read ho.out
        cases hv
        exact comeInOrder_is r xs (by omega) 0 g.terms.length ⟨Int.le_refl _, by omega⟩ xo xc wr hrd HI.out
      clear HI HK ho hxs
      go_wp2_with (first | (go_at_call 68; refine (HCO.out ()).mono ?_; rintro e w3 ⟨rfl, rfl⟩))
      go_ret
      exact ⟨rfl, hbW.out.trans (hb.out.mono hbW.out.size)⟩

set_option maxHeartbeats 1600000 in
theorem name_is (x : ByteArray) (ok : Bool) (g : Gr.Gm) (A : GA) (s : Int) (w : World) (h1 : g.terms.length ≤ 4000 ∧ g.names.length ≤ 4000) (ht : ∀ s ∈ g.terms, s.size ≤ 281474976710656) (hn : ∀ s ∈ g.names, s.size ≤ 281474976710656) (h : GmAt w.heap.size w g A) (hr : Gr.name g s = (x, ok)) :
    Calls Try.prog 27 #[.agg (gmCells g A), .int .i64 s] w fun e w' => e = .returned (.tuple #[.string x, .bool ok]) ∧ Below w.heap.size w w' := by
  obtain ⟨ta, tc, na, nc, ra, rc⟩ := A
  have HTm : Hid (StrsAt w.heap.size w ta g.terms) := h.terms
  have HNm : Hid (StrsAt w.heap.size w na g.names) := h.names
  have H1 : Hid _ := ht
  have H2 : Hid _ := hn
  have HR : Hid (Gr.name g s = (x, ok)) := hr
  have HN : Hid (∀ (b : Bool) (s : Int) (W : World), Gr.isN g s = b → Calls Try.prog 53 #[.agg (gmCells g ⟨ta, tc, na, nc, ra, rc⟩), .int .i64 s] W fun e w' => e = .returned (.bool b) ∧ Below W.heap.size W w') := fun b s W hb => nonterm_is b g ⟨ta, tc, na, nc, ra, rc⟩ s W h1 hb
  have HT : Hid (∀ (b : Bool) (s : Int) (W : World), Gr.isT g s = b → Calls Try.prog 28 #[.agg (gmCells g ⟨ta, tc, na, nc, ra, rc⟩), .int .i64 s] W fun e w' => e = .returned (.bool b) ∧ Below W.heap.size W w') := fun b s W hb => term_is b g ⟨ta, tc, na, nc, ra, rc⟩ s W hb
  clear h hr ht hn
  simp only [gmCells] at HN HT ⊢
  have hbW : Hid (Below w.heap.size w (w.alloc (Obj.cells #[.slice ta g.terms.length tc, .slice na g.names.length nc, .slice ra g.rules.length rc] 26))) := (Below.refl _ w).alloc (Nat.le_refl _) _
  have B0 : Hid ((w.alloc (Obj.cells #[.slice ta g.terms.length tc, .slice na g.names.length nc, .slice ra g.rules.length rc] 26)).heap[w.heap.size]? = some (.cells #[.slice ta g.terms.length tc, .slice na g.names.length nc, .slice ra g.rules.length rc] 26 (0, 0))) := heap_alloc_new w _
  have hWs : Hid ((w.alloc (Obj.cells #[.slice ta g.terms.length tc, .slice na g.names.length nc, .slice ra g.rules.length rc] 26)).heap.size = w.heap.size + 1) := by show _ = _; simp
  cases hT : Gr.isT g s
  · have HC : Hid (∀ (W : World), _) := fun W => HT.out _ s W hT
    cases hN : Gr.isN g s
    · have HC3 : Hid (∀ (W : World), _) := fun W => HN.out _ s W hN
      have R : Hid (x = ⟨#[]⟩ ∧ ok = false) := by
        have := HR.out
        unfold Gr.name at this
        rw [if_neg (by simp [hT]), if_neg (by simp [hN])] at this
        cases this; exact ⟨rfl, rfl⟩
      clear hT hN HT HN HR
      go_enter Try.func27, Try.ntmps27
      go_wp2_with fail
      generalize (w.alloc (Obj.cells #[.slice ta g.terms.length tc, .slice na g.names.length nc, .slice ra g.rules.length rc] 26)) = W at *
      refine (HC.out _).mono ?_
      rintro e w2 ⟨rfl, hb2⟩
      obtain ⟨g0, g1, g2, _⟩ := cells_three_z ((hb2.block _ (by rw [hWs.out]; omega)).trans B0.out)
      go_wp2_with fail
      refine (HC3.out _).mono ?_
      rintro e w3 ⟨rfl, hb3⟩
      go_wp2_with fail
      go_ret2
      rw [R.out.1, R.out.2]
      exact ⟨rfl, (hbW.out.trans (hb2.mono hbW.out.size)).trans (hb3.mono (by have := hbW.out.size; have := hb2.size; omega))⟩
    · have HC3 : Hid (∀ (W : World), _) := fun W => HN.out _ s W hN
      have hlo := of_decide_eq_true hN
      have hix : (s - g.terms.length).toNat < g.names.length := by omega
      have R : Hid (x = g.names[(s - g.terms.length).toNat] ∧ ok = true) := by
        have := HR.out
        unfold Gr.name at this
        rw [if_neg (by simp [hT]), if_pos hN, Gr.getD_at _ _ _ hix] at this
        cases this; exact ⟨rfl, rfl⟩
      obtain ⟨b, o, rfl, hbb, _, c0⟩ := HNm.out.get (s - g.terms.length).toNat hix
      have hsz := H2.out _ (List.getElem_mem hix)
      rw [← R.out.1] at c0 hsz
      have hok : ok = true := R.out.2
      subst hok
      clear hT hN HT HN HR
      obtain ⟨q, hq⟩ : ∃ q : Nat, (s - g.terms.length).toNat = q := ⟨_, rfl⟩
      rw [hq] at c0 hix
      have hsub : s - (g.terms.length : Int) = (q : Int) := by omega
      have hqi : (q : Int) < (g.names.length : Int) := by omega
      have hs0 : 0 ≤ s := by omega
      have hs1 : s ≤ 8000 := by omega
      clear R hq hlo
      go_enter Try.func27, Try.ntmps27
      go_wp2_with fail
      generalize (w.alloc (Obj.cells #[.slice ta g.terms.length tc, .slice (some ⟨b, o, none⟩) g.names.length nc, .slice ra g.rules.length rc] 26)) = W at *
      refine (HC.out _).mono ?_
      rintro e w2 ⟨rfl, hb2⟩
      obtain ⟨g0, g1, g2, _⟩ := cells_three_z ((hb2.block _ (by rw [hWs.out]; omega)).trans B0.out)
      go_wp2_with fail
      refine (HC3.out _).mono ?_
      rintro e w3 ⟨rfl, hb3⟩
      replace g0 := cell_later hb3 g0
      replace g1 := cell_later hb3 g1
      replace g2 := cell_later hb3 g2
      have HB3 : Hid (Below w.heap.size w w3) := (hbW.out.trans (hb2.mono hbW.out.size)).trans (hb3.mono (by have := hbW.out.size; have := hb2.size; omega))
      replace c0 := cell_later HB3.out c0
      go_wp2_with fail
      refine (clone_any _ _ hsz).mono ?_
      rintro e w4 ⟨rfl, hb4⟩
      go_wp2_with fail
      go_ret2
      exact ⟨rfl, HB3.out.trans (hb4.mono HB3.out.size)⟩
  · have HC : Hid (∀ (W : World), _) := fun W => HT.out _ s W hT
    have hlo := of_decide_eq_true hT
    have hix : s.toNat < g.terms.length := by omega
    have R : Hid (x = g.terms[s.toNat] ∧ ok = true) := by
      have := HR.out
      unfold Gr.name at this
      rw [if_pos hT, Gr.getD_at _ _ _ hix] at this
      cases this; exact ⟨rfl, rfl⟩
    obtain ⟨b, o, rfl, hbb, _, c0⟩ := HTm.out.get s.toNat hix
    have hsz := H1.out _ (List.getElem_mem hix)
    rw [← R.out.1] at c0 hsz
    have hok : ok = true := R.out.2
    subst hok
    clear hT HT HN HR
    obtain ⟨q, rfl⟩ : ∃ q : Nat, s = q := ⟨s.toNat, by omega⟩
    rw [Int.toNat_natCast] at c0 hix
    clear R hlo
    go_enter Try.func27, Try.ntmps27
    go_wp2_with fail
    generalize (w.alloc (Obj.cells #[.slice (some ⟨b, o, none⟩) g.terms.length tc, .slice na g.names.length nc, .slice ra g.rules.length rc] 26)) = W at *
    refine (HC.out _).mono ?_
    rintro e w2 ⟨rfl, hb2⟩
    obtain ⟨g0, g1, g2, _⟩ := cells_three_z ((hb2.block _ (by rw [hWs.out]; omega)).trans B0.out)
    have HB3 : Hid (Below w.heap.size w w2) := hbW.out.trans (hb2.mono hbW.out.size)
    replace c0 := cell_later HB3.out c0
    go_wp2_with fail
    refine (clone_any _ _ hsz).mono ?_
    rintro e w4 ⟨rfl, hb4⟩
    go_wp2_with fail
    go_ret2
    exact ⟨rfl, HB3.out.trans (hb4.mono HB3.out.size)⟩
end Go.Proofs.Ytimjopaedfefmaa
