/-
  Layer 10 (depend): spotsBut: all occurrences, but those.
-/
import Derived.Test.YtdocbgfpnaiijaaDpMarked
import Derived.Test.YtdocbgfpnaiijaaGrGood6
namespace Go.Proofs.Ytdocbgfpnaiijaa
open Go.RowKit Go.Conc

def Dp.spotsG (g : Gr.Gm) (wo : List (Int × Int)) : List (Int × Int) := if Gr.good g = true then Dp.but g.terms.length g.rules wo else []
theorem Dp.places_no {T : Nat} {wo : List (Int × Int)} {r : List Int} {i k : Nat} (h : ¬ ((T : Int) ≤ r.getD k 0 ∧ ((i : Int), (k : Int)) ∉ wo)) : Dp.placesTo T wo r i (k + 1) = Dp.placesTo T wo r i k := by
  rw [Dp.placesTo_succ, if_neg h, List.append_nil]
theorem Dp.places_yes {T : Nat} {wo : List (Int × Int)} {r : List Int} {i k : Nat} (h : (T : Int) ≤ r.getD k 0 ∧ ((i : Int), (k : Int)) ∉ wo) : Dp.placesTo T wo r i (k + 1) = Dp.placesTo T wo r i k ++ [((i : Int), (k : Int))] := by
  rw [Dp.placesTo_succ, if_pos h]

set_option maxRecDepth 100000 in
set_option maxHeartbeats 12800000 in
theorem spotsBut_any (g : Gr.Gm) (A : GA) (wo : List (Int × Int)) (so : Option Addr) (sc : Nat) (w : World) (hm : ∀ x ∈ g.rules, x.2.length ≤ maxLen) (h : GmAt w.heap.size w g A) (hwo : SpotsAt w.heap.size w so wo) (h4 : wo.length ≤ 4000) :
    Calls Try.prog 43 #[.agg (gmCells g A), .slice so wo.length sc] w fun e w' => ∃ v, e = .returned v ∧ Hid (OwnSpots w.heap.size w' v (Dp.spotsG g wo)) ∧ Hid (Below w.heap.size w w') := by
  obtain ⟨ta, tc, na, nc, ra, rc⟩ := A
  have HG : Hid (GmAt w.heap.size w g ⟨ta, tc, na, nc, ra, rc⟩) := h
  have HWO : Hid (SpotsAt w.heap.size w so wo) := hwo
  have HGD : Hid (∀ (r : Bool) (W : World), Below w.heap.size w W → Gr.good g = r → Calls Try.prog 40 #[.agg (gmCells g ⟨ta, tc, na, nc, ra, rc⟩)] W fun e w' => e = .returned (.bool r) ∧ Below W.heap.size W w') := fun r W hW hr => good_is r g _ W hm (h.next hW) hr
  have hB0 : Hid (Below w.heap.size w (w.alloc (Obj.cells #[.slice ta g.terms.length tc, .slice na g.names.length nc, .slice ra g.rules.length rc] 25))) := (Below.refl _ w).alloc (Nat.le_refl _) _
  have b0 : Hid ((w.alloc (Obj.cells #[.slice ta g.terms.length tc, .slice na g.names.length nc, .slice ra g.rules.length rc] 25)).heap[w.heap.size]? = some (.cells #[.slice ta g.terms.length tc, .slice na g.names.length nc, .slice ra g.rules.length rc] 25 (0, 0))) := heap_alloc_new w _
  cases hg : Gr.good g
  · have R : Hid (Dp.spotsG g wo = []) := by show _ = _; simp [Dp.spotsG, hg]
    have HC1 : Hid (∀ _ : Unit, _) := fun _ => HGD.out false _ hB0.out hg
    clear HGD hm h hwo
    simp only [gmCells] at HC1 ⊢
    go_enter Try.func43, Try.ntmps43
    go_wp2_with (go_at_call 40; refine (HC1.out ()).mono ?_; rintro e w1 ⟨rfl, hb1⟩)
    go_ret
    refine ⟨_, rfl, ?_, hB0.out.trans (hb1.mono hB0.out.size)⟩
    show OwnSpots _ _ _ _
    rw [R.out]; exact OwnSpots.nil _ _
  · have R : Hid (Dp.spotsG g wo = Dp.but g.terms.length g.rules wo) := by show _ = _; simp [Dp.spotsG, hg]
    have HC1 : Hid (∀ _ : Unit, _) := fun _ => HGD.out true _ hB0.out hg
    obtain ⟨hsz, h8⟩ := Nl.sizes_of hg
    have H8 : Hid _ := h8
    have HMK : Hid (∀ (W : World), Below w.heap.size w W → Calls Try.prog 69 #[.agg (gmCells g ⟨ta, tc, na, nc, ra, rc⟩), .slice so wo.length sc] W fun e w' => ∃ io ic, e = .returned (.slice io g.rules.length ic) ∧ (∃ Bs, Hid (MkAt W.heap.size w' (.slice io g.rules.length ic) Bs (Dp.marks g.rules wo))) ∧ Hid (Below W.heap.size W w')) := fun W hW => marked_any g _ wo so sc W hg (HG.out.next hW) (HWO.out.next hW) h4
    have HL : Hid (∀ i, i ≤ g.rules.length → (Dp.spotsTo g.terms.length wo g.rules i).length ≤ 8 * i) := fun i hi => Dp.spotsTo_len h8 i hi
    clear HGD hm h hwo h8
    simp only [gmCells] at HC1 HMK ⊢
    go_enter Try.func43, Try.ntmps43
    go_wp2_with (go_at_call 40; fail)
    generalize (w.alloc (Obj.cells #[.slice ta g.terms.length tc, .slice na g.names.length nc, .slice ra g.rules.length rc] 25)) = W at *
    refine (HC1.out ()).mono ?_
    rintro e w1 ⟨rfl, hb1⟩
    have HB1 : Hid (Below w.heap.size w w1) := hB0.out.trans (hb1.mono hB0.out.size)
    have b1 : Hid (w1.heap[w.heap.size]? = some (.cells #[.slice ta g.terms.length tc, .slice na g.names.length nc, .slice ra g.rules.length rc] 25 (0, 0))) := (hb1.block _ (Array.getElem?_eq_some_iff.1 b0.out).1).trans b0.out
    obtain ⟨g0, g1, g2, _⟩ := cells_three_z b1.out
    clear hb1 b0 hB0 HC1
    go_wp2_with (go_at_call 69; fail)
    refine Calls.mono (HMK.out _ HB1.out) ?_
    rintro e w2 ⟨io, ic, rfl, ⟨Bs, hM2⟩, hb2⟩
    have b2 : Hid (w2.heap[w.heap.size]? = some (.cells #[.slice ta g.terms.length tc, .slice na g.names.length nc, .slice ra g.rules.length rc] 25 (0, 0))) := (hb2.out.block _ (Array.getElem?_eq_some_iff.1 b1.out).1).trans b1.out
    have HB2 : Hid (Below w.heap.size w w2) := HB1.out.trans (hb2.out.mono HB1.out.size)
    clear g0 g1 g2 b1 HMK hb2
    have hMl : (Dp.marks g.rules wo).length = g.rules.length := Dp.marks_len _ _
    obtain ⟨ib, ic2, e, _, _, _, _⟩ := MkAt.read hM2.out (by rw [hMl]; omega)
    rw [hMl] at e
    simp only [Value.slice.injEq] at e
    obtain ⟨rfl, _, rfl⟩ := e
    clear hMl
    have HMB : Hid (∀ (V : World), Below w2.heap.size w2 V → MkAt w1.heap.size V (.slice (some ⟨ib, 0, none⟩) g.rules.length ic) Bs (Dp.marks g.rules wo)) := fun V hV => hM2.out.later hV
    have HBG : Hid (∀ (V : World), Below w2.heap.size w2 V → Below w.heap.size w V ∧ V.heap[w.heap.size]? = some (.cells #[.slice ta g.terms.length tc, .slice na g.names.length nc, .slice ra g.rules.length rc] 25 (0, 0))) := fun V hV => ⟨HB2.out.trans (hV.mono HB2.out.size), (hV.block _ (Array.getElem?_eq_some_iff.1 b2.out).1).trans b2.out⟩
    have hbs := HB1.out.size
    have hbs2 := HB2.out.size
    obtain ⟨g0, g1, g2, _⟩ := cells_three_z b2.out
    have hgz := (Array.getElem?_eq_some_iff.1 b2.out).1
    obtain ⟨rb, ro, hra⟩ : ∃ rb ro, ra = some ⟨rb, ro, none⟩ := by
      obtain ⟨rb, ro, _, _, e, _⟩ := HG.out.rules 0 (by omega)
      exact ⟨rb, ro, e⟩
    subst hra
    have hB0 : Hid (Below w2.heap.size w2 w2) := Below.refl _ _
    have hS0 : Hid (OwnSpots w2.heap.size w2 (.slice none 0 0) (Dp.spotsTo g.terms.length wo g.rules 0)) := OwnSpots.nil _ _
    clear hM2 b2 HB2 HB1
    go_wp2_with fail
    clear g0 g1 g2 hgz
    go_loopw [6, 20] (fun v iv wr => ∃ (i : Nat) (xo : Option Addr) (xc : Nat), i ≤ g.rules.length ∧ iv = .int .i64 i ∧ v = .slice xo (Dp.spotsTo g.terms.length wo g.rules i).length xc ∧ Hid (OwnSpots w2.heap.size wr (.slice xo (Dp.spotsTo g.terms.length wo g.rules i).length xc) (Dp.spotsTo g.terms.length wo g.rules i)) ∧ Hid (Below w2.heap.size w2 wr)) (fun _ iv _ => g.rules.length - (intOf iv).toNat)
    case atStart => exact ⟨0, none, 0, Nat.zero_le _, rfl, rfl, hS0, hB0⟩
    case round =>
      obtain ⟨i, xo, xc, hi, rfl, rfl, hS, hB⟩ := hrel
      clear hS0 hB0
      by_cases hil : i < g.rules.length
      · have hii : (i : Int) < (g.rules.length : Int) := by omega
        obtain ⟨HBw, hgb⟩ := HBG.out wr hB.out
        obtain ⟨rb2, ro2, yo, yc, e, _, _, k0, k1, ki, _⟩ := HG.out.rules i hil
        simp only [Option.some.injEq, Addr.mk.injEq] at e
        obtain ⟨rfl, rfl, _⟩ := e
        replace k0 := cell_later HBw k0
        replace k1 := cell_later HBw k1
        have h8 := H8.out _ (List.getElem_mem hil)
        have hlen := HL.out i hi
        have hrb := World.block_lt_of_cell? _ _ k0
        have hgD : g.rules.getD i (0, []) = g.rules[i] := by simp [List.getD_eq_getElem?_getD, hil]
        have SUC : Hid (Dp.spotsTo g.terms.length wo g.rules (i + 1) = Dp.spotsTo g.terms.length wo g.rules i ++ Dp.placesTo g.terms.length wo g.rules[i].2 i g.rules[i].2.length) := by show _ = _; rw [Dp.spotsTo_succ, hgD]
        have MRL : Hid ((Dp.mrow g.rules wo i).length = g.rules[i].2.length) := by show _ = _; rw [Dp.mrow_len, hgD]
        have KI : Hid (IntsAt w.heap.size w yo g.rules[i].2) := ki
        clear ki hgD
        generalize g.rules[i] = y at *
        obtain ⟨l, rs⟩ := y
        simp only at k0 k1 h8 SUC MRL KI
        generalize Dp.spotsTo g.terms.length wo g.rules i = pre at *
        have hbn : Hid (Below wr.heap.size wr (wr.alloc (Obj.cells #[.int .i64 l, .slice yo rs.length yc] 31))) := (Below.refl _ wr).alloc (Nat.le_refl _) _
        have kn : Hid ((wr.alloc (Obj.cells #[.int .i64 l, .slice yo rs.length yc] 31)).heap[wr.heap.size]? = some (.cells #[.int .i64 l, .slice yo rs.length yc] 31 (0, 0))) := heap_alloc_new wr _
        have hB1 : Hid (Below w2.heap.size w2 (wr.alloc (Obj.cells #[.int .i64 l, .slice yo rs.length yc] 31))) := hB.out.trans (hbn.out.mono hB.out.size)
        have hS1 : Hid (OwnSpots w2.heap.size (wr.alloc (Obj.cells #[.int .i64 l, .slice yo rs.length yc] 31)) (.slice xo pre.length xc) (pre ++ Dp.placesTo g.terms.length wo rs i 0)) := by
          show OwnSpots _ _ _ _
          have : Dp.placesTo g.terms.length wo rs i 0 = [] := rfl
          rw [this, List.append_nil]
          exact hS.out.below hbn.out
        obtain ⟨g0, g1, g2, _⟩ := cells_three_z hgb
        have hgz := (Array.getElem?_eq_some_iff.1 hgb).1
        clear hS hB hbn hgb HBw
        go_upto_region 8 with fail
        generalize (wr.alloc (Obj.cells #[.int .i64 l, .slice yo rs.length yc] 31)) = Wr at *
        generalize wr.heap.size = R at *
        clear k0 k1 g0 g1 g2 hgz
        obtain ⟨r0, r1, _⟩ := cells_two_z kn.out
        have hrz := (Array.getElem?_eq_some_iff.1 kn.out).1
        go_wp2_with fail
        clear r0 r1 hrz kn
        go_loopw [6, 28] (fun v kv wr => ∃ (k : Nat) (xo : Option Addr) (xc : Nat), k ≤ rs.length ∧ kv = .int .i64 k ∧ v = .slice xo (pre ++ Dp.placesTo g.terms.length wo rs i k).length xc ∧ Hid (OwnSpots w2.heap.size wr (.slice xo (pre ++ Dp.placesTo g.terms.length wo rs i k).length xc) (pre ++ Dp.placesTo g.terms.length wo rs i k)) ∧ Hid (Below w2.heap.size w2 wr)) (fun _ kv _ => rs.length - (intOf kv).toNat)
        case atStart => exact ⟨0, xo, xc, Nat.zero_le _, rfl, by simp [Dp.placesTo], by simpa [Dp.placesTo] using hS1, hB1⟩
        case round =>
          obtain ⟨k, xo, xc, hk, rfl, rfl, hS, hB⟩ := hrel
          clear hS1 hB1
          by_cases hkl : k < rs.length
          · have hki : (k : Int) < (rs.length : Int) := by omega
            obtain ⟨HBw, hgb⟩ := HBG.out wr hB.out
            have hMw := HMB.out wr hB.out
            obtain ⟨xb, xof, rfl, _, _, x0⟩ := IntsAt.get (KI.out.later HBw) k hkl
            have hiB : i < Bs.length := by rw [hMw.len, Dp.marks_len]; exact hil
            have hmk : (Dp.marks g.rules wo).getD i [] = Dp.mrow g.rules wo i := Dp.marks_getD _ hil
            have hkm : k < (Dp.mrow g.rules wo i).length := by rw [MRL.out]; exact hkl
            obtain ⟨ib2, ic2, e, hibl, hibg, _, hrow⟩ := MkAt.read hMw (by rw [Dp.marks_len]; omega)
            simp only [Value.slice.injEq, Option.some.injEq, Addr.mk.injEq] at e
            obtain ⟨⟨rfl, _⟩, hz9, rfl⟩ := e
            clear hz9
            have hr0 := hrow i hiB
            rw [hmk] at hr0
            simp only [rowV, MRL.out] at hr0
            have hc0 := (hMw.cell i k hiB (by rw [hmk]; exact hkm)).1
            have hc1 : wr.cell? ⟨Bs[i], k, none⟩ = some (.bool (decide (((i : Int), (k : Int)) ∈ wo))) := by
              rw [hc0]
              congr 2
              have e2 : ((Dp.marks g.rules wo).getD i [])[k]'(by rw [hmk]; exact hkm) = (Dp.mrow g.rules wo i)[k]'hkm := by congr 1
              rw [e2, Dp.mrow_get]
            have hBl := hMw.lt _ (List.getElem_mem hiB)
            have hgx : rs.getD k 0 = rs[k] := by simp [List.getD_eq_getElem?_getD, hkl]
            have NO : Hid (¬ ((g.terms.length : Int) ≤ rs[k] ∧ ((i : Int), (k : Int)) ∉ wo) → Dp.placesTo g.terms.length wo rs i (k + 1) = Dp.placesTo g.terms.length wo rs i k) := fun q => Dp.places_no (by rw [hgx]; exact q)
            have YES : Hid ((g.terms.length : Int) ≤ rs[k] ∧ ((i : Int), (k : Int)) ∉ wo → Dp.placesTo g.terms.length wo rs i (k + 1) = Dp.placesTo g.terms.length wo rs i k ++ [((i : Int), (k : Int))]) := fun q => Dp.places_yes (by rw [hgx]; exact q)
            have hpl : (pre ++ Dp.placesTo g.terms.length wo rs i k).length ≤ 488 := by rw [List.length_append]; have := Dp.placesTo_len g.terms.length wo rs i k; omega
            obtain ⟨g0, g1, g2, _⟩ := cells_three_z hgb
            have hgz := (Array.getElem?_eq_some_iff.1 hgb).1
            have hxl := World.block_lt_of_cell? _ _ x0
            clear hgb hMw hrow hmk hkm hc0 hgx HBw
            generalize rs[k] = x at *
            generalize Bs[i] = Bi at *
            by_cases hxt : x < (g.terms.length : Int)
            · have hN := NO.out (fun q => by omega)
              have hd : ¬ (g.terms.length : Int) ≤ x := by omega
              have hS2 : Hid (OwnSpots w2.heap.size wr (.slice xo (pre ++ Dp.placesTo g.terms.length wo rs i (k + 1)).length xc) (pre ++ Dp.placesTo g.terms.length wo rs i (k + 1))) := by
                show OwnSpots _ _ _ _
                rw [hN]; exact hS.out
              have hLL : (pre ++ Dp.placesTo g.terms.length wo rs i k).length = (pre ++ Dp.placesTo g.terms.length wo rs i (k + 1)).length := by rw [hN]
              rw [hLL]
              clear hS NO YES hN hLL
              go_wp2_with fail
              go_roundw
              case rel => exact ⟨k + 1, xo, xc, by omega, by go_num, rfl, hS2, hB⟩
              case measure => simp [intOf]; omega
            · have hd : (g.terms.length : Int) ≤ x := by omega
              cases hw : decide (((i : Int), (k : Int)) ∈ wo)
              · rw [hw] at hc1
                have hN := YES.out ⟨hd, of_decide_eq_false hw⟩
                have hb2 : Hid (Below wr.heap.size wr (wr.alloc (Obj.cells #[.int .i64 (i : Int), .int .i64 (k : Int)] 48))) := (Below.refl _ wr).alloc (Nat.le_refl _) _
                have HO2 : Hid (OwnSpots w2.heap.size (wr.alloc (Obj.cells #[.int .i64 (i : Int), .int .i64 (k : Int)] 48)) (.slice xo (pre ++ Dp.placesTo g.terms.length wo rs i k).length xc) (pre ++ Dp.placesTo g.terms.length wo rs i k)) := hS.out.below hb2.out
                have HB3 : Hid (Below w2.heap.size w2 (wr.alloc (Obj.cells #[.int .i64 (i : Int), .int .i64 (k : Int)] 48))) := hB.out.trans (hb2.out.mono hB.out.size)
                have hbase := HB3.out.size
                have HN : Hid (Dp.placesTo g.terms.length wo rs i (k + 1) = Dp.placesTo g.terms.length wo rs i k ++ [((i : Int), (k : Int))]) := hN
                clear hS NO YES hN hw hB hb2
                generalize hcu : pre ++ Dp.placesTo g.terms.length wo rs i k = cur at *
                have HCU : Hid (pre ++ Dp.placesTo g.terms.length wo rs i k = cur) := hcu
                clear hcu
                go_wp2_with (at_builtin; refine wpList_append_spot rfl _ _ rfl w2.heap.size _ cur rfl HO2.out wr.heap.size 1 ((i : Int), (k : Int)) rfl (by simp [go_sem]) (by simp [go_sem]) (by omega) hbase ?_; intro ga cap w8 ho8 hg8)
                have HB8 : Hid (Below w2.heap.size w2 w8) := HB3.out.grown hg8 hbase (fun q hq => (HO2.out.lt q hq).1)
                have hE : cur ++ [((i : Int), (k : Int))] = pre ++ Dp.placesTo g.terms.length wo rs i (k + 1) := by rw [HN.out, ← List.append_assoc, HCU.out]
                have HS8 : Hid (OwnSpots w2.heap.size w8 (.slice (some ⟨ga, 0, none⟩) (pre ++ Dp.placesTo g.terms.length wo rs i (k + 1)).length cap) (pre ++ Dp.placesTo g.terms.length wo rs i (k + 1))) := by
                  show OwnSpots _ _ _ _
                  rw [← hE, List.length_append]; exact ho8
                have hLL : cur.length + 1 = (pre ++ Dp.placesTo g.terms.length wo rs i (k + 1)).length := by rw [← hE, List.length_append]; rfl
                rw [hLL]
                clear ho8 hg8 HO2 HB3 hE hLL
                go_roundw
                case rel => exact ⟨k + 1, _, _, by omega, by go_num, rfl, HS8, HB8⟩
                case measure => simp [intOf]; omega
              · rw [hw] at hc1
                have hN := NO.out (fun q => q.2 (of_decide_eq_true hw))
                have hS2 : Hid (OwnSpots w2.heap.size wr (.slice xo (pre ++ Dp.placesTo g.terms.length wo rs i (k + 1)).length xc) (pre ++ Dp.placesTo g.terms.length wo rs i (k + 1))) := by
                  show OwnSpots _ _ _ _
                  rw [hN]; exact hS.out
                have hLL : (pre ++ Dp.placesTo g.terms.length wo rs i k).length = (pre ++ Dp.placesTo g.terms.length wo rs i (k + 1)).length := by rw [hN]
                rw [hLL]
                clear hS NO YES hN hw hLL
                go_wp2_with fail
                go_roundw
                case rel => exact ⟨k + 1, xo, xc, by omega, by go_num, rfl, hS2, hB⟩
                case measure => simp [intOf]; omega
          · obtain rfl : k = rs.length := by omega
            have hki : ¬ (rs.length : Int) < (rs.length : Int) := by omega
            have hS2 : Hid (OwnSpots w2.heap.size wr (.slice xo (Dp.spotsTo g.terms.length wo g.rules (i + 1)).length xc) (Dp.spotsTo g.terms.length wo g.rules (i + 1))) := by
              show OwnSpots _ _ _ _
              rw [SUC.out]; exact hS.out
            rw [← SUC.out]
            clear hS
            go_wp2_with fail
            go_roundw
            case rel => exact ⟨i + 1, xo, xc, by omega, by go_num, rfl, hS2, hB⟩
            case measure => simp [intOf]; omega
      · obtain rfl : i = g.rules.length := by omega
        have hii : ¬ (g.rules.length : Int) < (g.rules.length : Int) := by omega
        have HBf : Hid (Below w.heap.size w wr) := (HBG.out wr hB.out).1
        have SF : Hid (OwnSpots w.heap.size wr (.slice xo (Dp.spotsTo g.terms.length wo g.rules g.rules.length).length xc) (Dp.spotsG g wo)) := by
          show OwnSpots _ _ _ _
          rw [R.out]
          exact ownsRow_from hS.out hbs2
        clear hS hB
        go_wp2_with fail
        go_ret
        exact ⟨_, rfl, SF, HBf⟩
end Go.Proofs.Ytdocbgfpnaiijaa
