/-
  The law NullableRows, walked: it returns true, of every grammar and two rows of numbers.
-/
import Derived.Test.YtimjopaedfefmaaNlRow1
import Derived.Deep.DeepCutAuto
import Derived.Test.YtimjopaedfefmaaGrQuiet
import Derived.BigQuiet
namespace Go.Proofs.Ytimjopaedfefmaa
open Go.RowKit Go.Conc

theorem anyH_one {P : Program} {md : Region.Mode} {ops : Array Oper} {Q : Exit → Act → World → Prop} {S : World → Prop} {fuel : Nat} {listed : Array Bool} {a : Act} {w : World} {i : Nat} {o : Oper} (hr : Region.ready md ops listed = [i]) (ho : ops[i]? = some o) (hw : Region.wanted o (yielded ops a.tmps) = true)
    (h : ∀ K : Act → World → Prop, Hid (∀ a' w', S w' → wpAnyH P md ops Q S fuel (listed.setIfInBounds i true) a' w' → K a' w') → o.wp P a w K Q) : wpAnyH P md ops Q S (fuel + 1) listed a w :=
  wpAnyH_all hr (by simp) fun j hj => by
    rw [List.mem_singleton] at hj
    subst hj
    unfold wpOp
    rw [ho]
    simp only [hw, if_true]
    exact .inl (h _ fun a' w' h1 h2 => ⟨h1, h2⟩)
theorem low_lat {V w w' : World} (hL : Lat w w') (h : Below V.heap.size V w) : Below V.heap.size V w' := h.trans (Below.mono hL h.size)
theorem low_base {w w' : World} {o : Obj} (hL : Lat (w.alloc o) w') : w.heap.size ≤ w'.heap.size := by
  have := Below.size hL
  simp at this
  omega
theorem low_alloc {V w : World} {o : Obj} (h : Below V.heap.size V w) : Below V.heap.size V (w.alloc o) := h.alloc h.size _
theorem low_grown {V w w' : World} {r : Option Nat} (hg : w.grownBy w' r) (h : Below V.heap.size V w) (hr : ∀ k, r = some k → V.heap.size ≤ k) : Below V.heap.size V w' := h.grown hg h.size hr
theorem keep_g {V w' : World} {b : Nat} {x y z : Value} (hc : V.cell? ⟨b, 0, none⟩ = some x ∧ V.cell? ⟨b, 1, none⟩ = some y ∧ V.cell? ⟨b, 2, none⟩ = some z) (h : Below V.heap.size V w') : Below V.heap.size V w' ∧ w'.cell? ⟨b, 0, none⟩ = some x ∧ w'.cell? ⟨b, 1, none⟩ = some y ∧ w'.cell? ⟨b, 2, none⟩ = some z :=
  ⟨h, cell_later h hc.1, cell_later h hc.2.1, cell_later h hc.2.2⟩

theorem OwnInts.ints {base n c : Nat} {w : World} {ao : Option Addr} {xs : List Int} (h : OwnInts base w (.slice ao n c) xs) : IntsAt w.heap.size w ao xs := by
  obtain ⟨ao', c', e, h', _⟩ := OwnInts.read h
  simp only [Value.slice.injEq] at e
  obtain ⟨rfl, _, rfl⟩ := e
  exact h'

set_option maxRecDepth 100000 in
set_option maxHeartbeats 12800000 in
theorem nullableRows_in (g : Gr.Gm) (A : GA) (ao bo : Option Addr) (c d : Nat) (l m : List Int) (w : World) (h : GmAt w.heap.size w g A) (hm : ∀ r ∈ g.rules, r.2.length ≤ maxLen) (hl : Gr.large g = false) (hg : Gr.good g = true) (hll : l.length ≤ 50) (hlm : m.length ≤ 50)
    (hx : KindAt .u8 w.heap.size w ao l) (hx0 : ∀ x ∈ l, 0 ≤ x ∧ x < 256) (hy : KindAt .u8 w.heap.size w bo m) (hy0 : ∀ x ∈ m, 0 ≤ x ∧ x < 256) :
    Calls Try.prog 7 #[.agg (gmCells g A), .slice ao l.length c, .slice bo m.length d] w fun e w' => e = .returned (.bool true) ∧ Below w.heap.size w w' := by
  obtain ⟨ta, tc, na, nc, ra, rc⟩ := A
  have HG : Hid (GmAt w.heap.size w g ⟨ta, tc, na, nc, ra, rc⟩) := h
  have HX : Hid (KindAt .u8 w.heap.size w ao l) := hx
  have HX0 : Hid _ := hx0
  have HY : Hid (KindAt .u8 w.heap.size w bo m) := hy
  have HY0 : Hid _ := hy0
  obtain ⟨hsz, _⟩ := Nl.sizes_of hg
  have HGD0 : Hid _ := hg
  have hlen := Nl.of_len hg
  have hbW : Hid (Below w.heap.size w (w.alloc (Obj.cells #[.slice ta g.terms.length tc, .slice na g.names.length nc, .slice ra g.rules.length rc] 26))) := (Below.refl _ w).alloc (Nat.le_refl _) _
  have b0 : Hid ((w.alloc (Obj.cells #[.slice ta g.terms.length tc, .slice na g.names.length nc, .slice ra g.rules.length rc] 26)).heap[w.heap.size]? = some (.cells #[.slice ta g.terms.length tc, .slice na g.names.length nc, .slice ra g.rules.length rc] 26 (0, 0))) := heap_alloc_new w _
  have HL1 : Hid (∀ (W : World), Below w.heap.size w W → Calls Try.prog 14 #[.agg (gmCells g ⟨ta, tc, na, nc, ra, rc⟩)] W fun e w' => e = .returned (.bool false) ∧ Below W.heap.size W w') := fun W hW => large_is false g _ W hm (h.later hW).size hl
  have HGD : Hid (∀ (W : World), Below w.heap.size w W → Calls Try.prog 26 #[.agg (gmCells g ⟨ta, tc, na, nc, ra, rc⟩)] W fun e w' => e = .returned (.bool true) ∧ Below W.heap.size W w') := fun W hW => refGood_any true g _ W hm (h.next hW) (by rw [Gr.refGood_is]; exact hg)
  have HOF : Hid (∀ (W : World), Below w.heap.size w W → Calls Try.prog 18 #[.agg (gmCells g ⟨ta, tc, na, nc, ra, rc⟩)] W fun e w' => ∃ ao c, e = .returned (.slice ao (g.terms.length + g.names.length) c) ∧ Hid (BoolsAt w'.heap.size w' ao (Nl.of g)) ∧ Hid (Below W.heap.size W w')) := fun W hW => by
    rw [← hlen]; exact nof_is g _ W hm (h.next hW)
  have HAL : Hid (∀ (xs : List Int) (b : Bool) (xo : Option Addr) (xc : Nat) (W : World), Below w.heap.size w W → IntsAt W.heap.size W xo xs → xs.length ≤ 4000 → Nl.allIn (Nl.of g) xs = b → Calls Try.prog 22 #[.agg (gmCells g ⟨ta, tc, na, nc, ra, rc⟩), .slice xo xs.length xc] W fun e w' => e = .returned (.bool b) ∧ Below W.heap.size W w') :=
    fun xs b xo xc W hW hI hl4 hb => nall_is b g _ xs xo xc W hm (h.next hW) hI hl4 (by rw [Nl.all_good hg]; exact hb)
  have h5i : ¬ (50 : Int) < (l.length : Int) := by omega
  have h6i : ¬ (50 : Int) < (m.length : Int) := by omega
  simp only [gmCells] at HL1 HGD HOF HAL ⊢
  clear h hm hx hx0 hy hy0 hg
  go_enter Try.func7, Try.ntmps7
  go_wp2_with (go_at_call 14; fail)
  generalize (w.alloc (Obj.cells #[.slice ta g.terms.length tc, .slice na g.names.length nc, .slice ra g.rules.length rc] 26)) = W at *
  refine Calls.mono (HL1.out _ hbW.out) ?_
  rintro e w1 ⟨rfl, hb1⟩
  have b1 : Hid _ := (hb1.block _ (Array.getElem?_eq_some_iff.1 b0.out).1).trans b0.out
  have HB1 : Hid (Below w.heap.size w w1) := hbW.out.trans (hb1.mono hbW.out.size)
  obtain ⟨g0, g1, g2, _⟩ := cells_three_z b1.out
  clear hb1 b0 hbW HL1
  go_wp2_with (go_at_call 26; fail)
  refine Calls.mono (HGD.out _ HB1.out) ?_
  rintro e w2 ⟨rfl, hb2⟩
  have b2 : Hid _ := (hb2.block _ (Array.getElem?_eq_some_iff.1 b1.out).1).trans b1.out
  have HB2 : Hid (Below w.heap.size w w2) := HB1.out.trans (hb2.mono HB1.out.size)
  clear g0 g1 g2 hb2 HB1 HGD b1
  obtain ⟨g0, g1, g2, _⟩ := cells_three_z b2.out
  go_wp2_with (go_at_call 18; fail)
  refine Calls.mono (HOF.out _ HB2.out) ?_
  rintro e w3 ⟨io, ic, rfl, hbs, hb3⟩
  have b3 : Hid _ := (hb3.out.block _ (Array.getElem?_eq_some_iff.1 b2.out).1).trans b2.out
  have HB3 : Hid (Below w.heap.size w w3) := HB2.out.trans (hb3.out.mono HB2.out.size)
  clear g0 g1 g2 hb3 HB2 HOF b2
  go_wp2_with fail
  generalize Nl.of g = bs at *
  go_loopw [9, 11, 12] (fun pv av iv wr => ∃ (i : Nat) (xo : Option Addr) (xc : Nat) (ab : Bool), i ≤ l.length ∧ pv = .slice xo i xc ∧ av = .bool ab ∧ iv = .int .i64 i ∧ Hid (OwnInts w3.heap.size wr (.slice xo i xc) ((l.take i).map (fun z : Int => z % ((g.terms.length : Int) + (g.names.length : Int))))) ∧ Hid (Nl.allIn bs ((l.take i).map (fun z : Int => z % ((g.terms.length : Int) + (g.names.length : Int)))) = ab) ∧ Hid (Below w3.heap.size w3 wr)) (fun _ _ iv _ => l.length - (intOf iv).toNat)
  case atStart => exact ⟨0, none, 0, true, Nat.zero_le _, rfl, rfl, rfl, World.ownsRow_nil _ _ _ _, rfl, Below.refl _ _⟩
  case round =>
    obtain ⟨i, xo, xc, ab, hi, rfl, rfl, rfl, hO, hE, hB⟩ := hrel
    have HQ : Hid (((l.take i).map (fun z : Int => z % ((g.terms.length : Int) + (g.names.length : Int)))).length = i) := by show _ = _; rw [List.length_map, List.length_take]; omega
    have HBw : Hid (Below w.heap.size w wr) := HB3.out.trans (hB.out.mono HB3.out.size)
    by_cases hil : i < l.length
    · have hii : (i : Int) < (l.length : Int) := by omega
      obtain ⟨lb, lo, hao, _, _, lc⟩ := HX.out i (by simpa using hil)
      subst hao
      rw [List.getElem_map] at lc
      have hz := HX0.out _ (List.getElem_mem hil)
      have HK : Hid _ := map_step (f := (fun z : Int => z % ((g.terms.length : Int) + (g.names.length : Int)))) l i hil
      have lc' := cell_later HBw.out lc
      generalize l[i] = z at *
      generalize (l.take i).map (fun z : Int => z % ((g.terms.length : Int) + (g.names.length : Int))) = done at *
      obtain ⟨md, hmd, hmdl⟩ : ∃ md : Nat, z % ((g.terms.length : Int) + (g.names.length : Int)) = (md : Int) ∧ md < g.terms.length + g.names.length := ⟨(z % ((g.terms.length : Int) + (g.names.length : Int))).toNat, by have := Int.emod_nonneg z (b := (g.terms.length : Int) + (g.names.length : Int)) (by omega); omega, by have := Int.emod_lt_of_pos z (b := (g.terms.length : Int) + (g.names.length : Int)) (by omega); have := Int.emod_nonneg z (b := (g.terms.length : Int) + (g.names.length : Int)) (by omega); omega⟩
      simp only [hmd] at HK
      have htm : z.tmod ((g.terms.length : Int) + (g.names.length : Int)) = (md : Int) := by rw [Int.tmod_eq_emod_of_nonneg hz.1]; exact hmd
      have hnz : ¬ (g.terms.length : Int) + (g.names.length : Int) = 0 := by omega
      have hwz : IntKind.wrap .i64 z = z := by rw [IntKind.wrap_i64]; omega
      have hwd : IntKind.wrap .i64 (md : Int) = (md : Int) := by rw [IntKind.wrap_i64]; omega
      have hb2 : Hid (Below wr.heap.size wr (wr.alloc (Obj.cells #[.int .i64 (md : Int)] 3))) := (Below.refl _ wr).alloc (Nat.le_refl _) _
      have HO2 : Hid (OwnInts w3.heap.size (wr.alloc (Obj.cells #[.int .i64 (md : Int)] 3)) (.slice xo i xc) done) := ownsRow_below hO.out hb2.out
      have hbase : w3.heap.size ≤ (wr.alloc (Obj.cells #[.int .i64 (md : Int)] 3)).heap.size := Nat.le_trans hB.out.size hb2.out.size
      have hdl : done.length + 1 ≤ 2000 := by rw [HQ.out]; omega
      clear lc
      go_upto_region 12 with fail
      iterate 28 go_step
      refine wpList_append_oint rfl (.tmp 53) (.tmp 61) rfl w3.heap.size (.slice xo i xc) done rfl HO2.out wr.heap.size 1 (md : Int) rfl (by simp [go_sem]) hdl hbase ?_
      intro ga cap w4 ho4 hg4
      rw [HQ.out] at ho4 ⊢
      have HB4 : Hid (Below w3.heap.size w3 w4) := (hB.out.trans (hb2.out.mono hB.out.size)).grown hg4 hbase (fun k hk => (HO2.out.lt k hk).1)
      have pc : w4.cell? ⟨ga, i, none⟩ = some (.int .i64 (md : Int)) := by
        have := OwnInts.cell ho4 i (by rw [List.length_append, HQ.out]; simp)
        rw [this, List.getElem_append_right (by rw [HQ.out]; omega)]; simp
      have hml : md < bs.length := by rw [hlen]; exact hmdl
      obtain ⟨ib, iq, hio, _, _, ic0⟩ := (hbs.out.later HB4.out).get md hml
      have eA : Nl.allIn bs (done ++ [(md : Int)]) = (ab && bs[md]) := by
        rw [allIn_append, hE.out]
        simp [Nl.allIn, Nl.isAt_get (by omega : (0 : Int) ≤ (md : Int)) (by simpa using hml)]
      rw [← HK.out] at ho4 eA
      have HO4 : Hid _ := ho4
      generalize bs[md] = bv at *
      subst hio
      clear hg4 ho4 HO2 hb2 hbase hO lc' htm hnz hwz hwd HK hE
      cases ab
      · have HE4 : Hid (Nl.allIn bs ((l.take (i + 1)).map (fun z : Int => z % ((g.terms.length : Int) + (g.names.length : Int)))) = false) := by show _ = _; rw [eA]; rfl
        clear eA
        go_wp2_with fail
        go_roundw
        case rel => exact ⟨i + 1, some ⟨ga, 0, none⟩, cap, false, by omega, rfl, rfl, by go_num, HO4, HE4, HB4⟩
        case measure => simp [intOf]; omega
      · have HE4 : Hid (Nl.allIn bs ((l.take (i + 1)).map (fun z : Int => z % ((g.terms.length : Int) + (g.names.length : Int)))) = bv) := by show _ = _; rw [eA]; simp
        clear eA
        go_wp2_with fail
        go_roundw
        case rel => exact ⟨i + 1, some ⟨ga, 0, none⟩, cap, bv, by omega, rfl, rfl, by go_num, HO4, HE4, HB4⟩
        case measure => simp [intOf]; omega
    · have hii : ¬ (i : Int) < (l.length : Int) := by omega
      obtain rfl : i = l.length := by omega
      rw [List.take_length] at hO hE HQ
      obtain ⟨V, hV⟩ : ∃ V, V = wr := ⟨_, rfl⟩
      subst hV
      have HBV0 : Hid (Below w3.heap.size w3 V) := hB
      go_wp2_with fail
      go_loopw [10, 13] (fun qv iv wr => ∃ (i : Nat) (yo : Option Addr) (yc : Nat), i ≤ m.length ∧ qv = .slice yo i yc ∧ iv = .int .i64 i ∧ Hid (OwnInts V.heap.size wr (.slice yo i yc) ((m.take i).map (fun z : Int => z % ((g.terms.length : Int) + (g.names.length : Int))))) ∧ Hid (Below V.heap.size V wr)) (fun _ iv _ => m.length - (intOf iv).toNat)
      case atStart => exact ⟨0, none, 0, Nat.zero_le _, rfl, rfl, World.ownsRow_nil _ _ _ _, Below.refl _ _⟩
      case round =>
        obtain ⟨i, yo, yc, hi2, rfl, rfl, hO2, hB2⟩ := hrel
        have HQ2 : Hid (((m.take i).map (fun z : Int => z % ((g.terms.length : Int) + (g.names.length : Int)))).length = i) := by show _ = _; rw [List.length_map, List.length_take]; omega
        have HBw2 : Hid (Below w.heap.size w wr) := HBw.out.trans (hB2.out.mono HBw.out.size)
        by_cases hil : i < m.length
        · have hii2 : (i : Int) < (m.length : Int) := by omega
          obtain ⟨lb, lo, hbo, _, _, lc⟩ := HY.out i (by simpa using hil)
          subst hbo
          rw [List.getElem_map] at lc
          have hz := HY0.out _ (List.getElem_mem hil)
          have HK : Hid _ := map_step (f := (fun z : Int => z % ((g.terms.length : Int) + (g.names.length : Int)))) m i hil
          have lc' := cell_later HBw2.out lc
          generalize m[i] = z at *
          generalize (m.take i).map (fun z : Int => z % ((g.terms.length : Int) + (g.names.length : Int))) = done at *
          obtain ⟨md, hmd, hmdl⟩ : ∃ md : Nat, z % ((g.terms.length : Int) + (g.names.length : Int)) = (md : Int) ∧ md < g.terms.length + g.names.length := ⟨(z % ((g.terms.length : Int) + (g.names.length : Int))).toNat, by have := Int.emod_nonneg z (b := (g.terms.length : Int) + (g.names.length : Int)) (by omega); omega, by have := Int.emod_lt_of_pos z (b := (g.terms.length : Int) + (g.names.length : Int)) (by omega); have := Int.emod_nonneg z (b := (g.terms.length : Int) + (g.names.length : Int)) (by omega); omega⟩
          simp only [hmd] at HK
          have htm : z.tmod ((g.terms.length : Int) + (g.names.length : Int)) = (md : Int) := by rw [Int.tmod_eq_emod_of_nonneg hz.1]; exact hmd
          have hnz : ¬ (g.terms.length : Int) + (g.names.length : Int) = 0 := by omega
          have hwz : IntKind.wrap .i64 z = z := by rw [IntKind.wrap_i64]; omega
          have hwd : IntKind.wrap .i64 (md : Int) = (md : Int) := by rw [IntKind.wrap_i64]; omega
          have hb2 : Hid (Below wr.heap.size wr (wr.alloc (Obj.cells #[.int .i64 (md : Int)] 3))) := (Below.refl _ wr).alloc (Nat.le_refl _) _
          have HO3 : Hid (OwnInts V.heap.size (wr.alloc (Obj.cells #[.int .i64 (md : Int)] 3)) (.slice yo i yc) done) := ownsRow_below hO2.out hb2.out
          have hbase : V.heap.size ≤ (wr.alloc (Obj.cells #[.int .i64 (md : Int)] 3)).heap.size := Nat.le_trans hB2.out.size hb2.out.size
          have hdl : done.length + 1 ≤ 2000 := by rw [HQ2.out]; omega
          clear lc
          go_upto_region 17 with fail
          iterate 28 go_step
          refine wpList_append_oint rfl (.tmp 79) (.tmp 87) rfl V.heap.size (.slice yo i yc) done rfl HO3.out wr.heap.size 1 (md : Int) rfl (by simp [go_sem]) hdl hbase ?_
          intro ga cap w4 ho4 hg4
          rw [HQ2.out] at ho4 ⊢
          have HB4 : Hid (Below V.heap.size V w4) := (hB2.out.trans (hb2.out.mono hB2.out.size)).grown hg4 hbase (fun k hk => (HO3.out.lt k hk).1)
          rw [← HK.out] at ho4
          have HO4 : Hid _ := ho4
          clear hg4 ho4 HO3 hb2 hbase hO2 lc' htm hnz hwz hwd HK
          go_wp2_with fail
          go_roundw
          case rel => exact ⟨i + 1, some ⟨ga, 0, none⟩, cap, by omega, rfl, by go_num, HO4, HB4⟩
          case measure => simp [intOf]; omega
        · have hii2 : ¬ (i : Int) < (m.length : Int) := by omega
          obtain rfl : i = m.length := by omega
          rw [List.take_length] at hO2 HQ2
          have hP : Hid (IntsAt wr.heap.size wr xo (l.map (fun z : Int => z % ((g.terms.length : Int) + (g.names.length : Int))))) := IntsAt.size (IntsAt.later (OwnInts.ints hO.out) hB2.out)
          have hR : Hid (IntsAt wr.heap.size wr yo (m.map (fun z : Int => z % ((g.terms.length : Int) + (g.names.length : Int))))) := OwnInts.ints hO2.out
          have bV : Hid _ := (HBV0.out.block _ (Array.getElem?_eq_some_iff.1 b3.out).1).trans b3.out
          have bV2 : Hid _ := (hB2.out.block _ (Array.getElem?_eq_some_iff.1 bV.out).1).trans bV.out
          obtain ⟨g0, g1, g2, _⟩ := cells_three_z bV2.out
          generalize hpe : l.map (fun z : Int => z % ((g.terms.length : Int) + (g.names.length : Int))) = p at *
          generalize hqe : m.map (fun z : Int => z % ((g.terms.length : Int) + (g.names.length : Int))) = q at *
          obtain ⟨qb, hqb⟩ : ∃ qb, Nl.allIn bs q = qb := ⟨_, rfl⟩
          have HAP : Hid (∀ (W : World), Below wr.heap.size wr W → Calls Try.prog 22 #[.agg #[.slice ta g.terms.length tc, .slice na g.names.length nc, .slice ra g.rules.length rc], .slice xo l.length xc] W fun e w' => e = .returned (.bool ab) ∧ Below W.heap.size W w') := fun W hW => by
            rw [← HQ.out]; exact HAL.out p ab xo xc W (HBw2.out.trans (hW.mono HBw2.out.size)) (IntsAt.size (IntsAt.later hP.out hW)) (by rw [HQ.out]; omega) hE.out
          have HAQ : Hid (∀ (W : World), Below wr.heap.size wr W → Calls Try.prog 22 #[.agg #[.slice ta g.terms.length tc, .slice na g.names.length nc, .slice ra g.rules.length rc], .slice yo m.length yc] W fun e w' => e = .returned (.bool qb) ∧ Below W.heap.size W w') := fun W hW => by
            rw [← HQ2.out]; exact HAL.out q qb yo yc W (HBw2.out.trans (hW.mono HBw2.out.size)) (IntsAt.size (IntsAt.later hR.out hW)) (by rw [HQ2.out]; omega) hqb
          have G0 : ∀ p : Later wr, p.w.cell? ⟨w.heap.size, 0, none⟩ = some (.slice ta g.terms.length tc) := Later.cell g0
          have G1 : ∀ p : Later wr, p.w.cell? ⟨w.heap.size, 1, none⟩ = some (.slice na g.names.length nc) := Later.cell g1
          have G2 : ∀ p : Later wr, p.w.cell? ⟨w.heap.size, 2, none⟩ = some (.slice ra g.rules.length rc) := Later.cell g2
          have LAP : Hid (∀ p : Later wr, _) := fun p => Calls.later_of (HAP.out p.w p.h)
          have LAQ : Hid (∀ p : Later wr, _) := fun p => Calls.later_of (HAQ.out p.w p.h)
          go_upto_region 18 with fail
          refine wp_region_later (by kernel_rfl) (by kernel_rfl) ?_
          iterate 3 (first | go_big_quiet_step (first | (go_at_call 22; exact LAP.out _)) | quiet_step (first | (go_at_call 22; exact LAP.out _)))
          clear LAP
          repeat (first | go_big_quiet_step (first | (go_at_call 22; exact LAQ.out _)) | quiet_step (first | (go_at_call 22; exact LAQ.out _)))
          refine wpQuiet_nil ?_
          intro _ hw'
          obtain ⟨pq, hw''⟩ := hw'
          subst hw''
          have HV2 : Hid (Below wr.heap.size wr pq.w) := pq.h
          clear G0 G1 G2 LAQ HAP HAQ
          go_upto_region 19 with fail
          generalize pq.w = V2 at *
          have HC2 : Hid (V2.cell? ⟨w.heap.size, 0, none⟩ = some (.slice ta g.terms.length tc) ∧ V2.cell? ⟨w.heap.size, 1, none⟩ = some (.slice na g.names.length nc) ∧ V2.cell? ⟨w.heap.size, 2, none⟩ = some (.slice ra g.rules.length rc)) := ⟨cell_later HV2.out g0, cell_later HV2.out g1, cell_later HV2.out g2⟩
          have HPI : Hid (∀ W, Below V2.heap.size V2 W → IntsAt W.heap.size W xo p) := fun W hW => IntsAt.size (IntsAt.later hP.out (low_lat (V := wr) (show Lat V2 W from hW) HV2.out))
          have HQI : Hid (∀ W, Below V2.heap.size V2 W → IntsAt W.heap.size W yo q) := fun W hW => IntsAt.size (IntsAt.later hR.out (low_lat (V := wr) (show Lat V2 W from hW) HV2.out))
          have HBV2 : Hid (Below w.heap.size w V2) := HBw2.out.trans (HV2.out.mono HBw2.out.size)
          have HAA : Hid (∀ (W : World) (xo' : Option Addr) (xc' : Nat), Below V2.heap.size V2 W → IntsAt W.heap.size W xo' (p ++ q) → Calls Try.prog 22 #[.agg #[.slice ta g.terms.length tc, .slice na g.names.length nc, .slice ra g.rules.length rc], .slice xo' (p.length + q.length) xc'] W fun e w' => e = .returned (.bool (ab && qb)) ∧ Below W.heap.size W w') := fun W xo' xc' hW hI => by
            rw [← List.length_append]; exact HAL.out (p ++ q) _ xo' xc' W (HBV2.out.trans (hW.mono HBV2.out.size)) hI (by rw [List.length_append, HQ.out, HQ2.out]; omega) (by rw [allIn_append, hE.out, hqb])
          have HAB : Hid (∀ (W : World) (xo' : Option Addr) (xc' : Nat), Below V2.heap.size V2 W → IntsAt W.heap.size W xo' (q ++ p) → Calls Try.prog 22 #[.agg #[.slice ta g.terms.length tc, .slice na g.names.length nc, .slice ra g.rules.length rc], .slice xo' (q.length + p.length) xc'] W fun e w' => e = .returned (.bool (ab && qb)) ∧ Below W.heap.size W w') := fun W xo' xc' hW hI => by
            rw [← List.length_append]; exact HAL.out (q ++ p) _ xo' xc' W (HBV2.out.trans (hW.mono HBV2.out.size)) hI (by rw [List.length_append, HQ.out, HQ2.out]; omega) (by rw [allIn_append, hE.out, hqb, Bool.and_comm])
          clear HAL hE hqb hP hR HV2 HBw2 HBw hB2 hO2 hO hB HBV0 bV bV2 g0 g1 g2 HB3 b3 hbs hpe hqe HX HX0 HY HY0 HG HGD0
          have HP4 : Hid (p.length ≤ 4000) := by show _ ≤ _; rw [HQ.out]; omega
          have HQ4 : Hid (q.length ≤ 4000) := by show _ ≤ _; rw [HQ2.out]; omega
          have HPQ1 : Hid (p.length + q.length ≤ 2000) := by show _ ≤ _; rw [HQ.out, HQ2.out]; omega
          have HPQ2 : Hid (q.length + p.length ≤ 2000) := by show _ ≤ _; rw [HQ.out, HQ2.out]; omega
          cases ab
          · simp only [Bool.false_and] at HAA HAB
            refine wp_region_held_drew (S := (fun w' => Below V2.heap.size V2 w' ∧ w'.cell? ⟨w.heap.size, 0, none⟩ = some (.slice ta g.terms.length tc) ∧ w'.cell? ⟨w.heap.size, 1, none⟩ = some (.slice na g.names.length nc) ∧ w'.cell? ⟨w.heap.size, 2, none⟩ = some (.slice ra g.rules.length rc))) (by kernel_rfl) (keep_g HC2.out (Below.drew (Below.refl _ _))) (fun hS0 => ?_)
            have hS := hS0
            refine wpAnyH_take (i := 0) (v := (.bool false)) rfl (by kernel_rfl) (by kernel_rfl) (by kernel_rfl) (fun _ _ _ h => h) (Or.inl ⟨by rfl, fun w1 hS1 => ?_⟩) hS ?_
            · go_simp
            simp only [Act.put, List.getElem_toArray, List.getElem_cons_zero, List.setIfInBounds_toArray, List.set_cons_zero, List.set_cons_succ]
            refine wpAnyH_take (i := 1) (v := (.bool false)) rfl (by kernel_rfl) (by kernel_rfl) (by kernel_rfl) (fun _ _ _ h => h) (Or.inl ⟨by rfl, fun w1 hS1 => ?_⟩) hS ?_
            · go_simp
            simp only [Act.put, List.getElem_toArray, List.getElem_cons_succ, List.getElem_cons_zero, List.setIfInBounds_toArray, List.set_cons_zero, List.set_cons_succ]
            refine wpAnyH_take (i := 2) (v := (.bool true)) rfl (by kernel_rfl) (by kernel_rfl) (by kernel_rfl) (fun _ _ _ h => h) (Or.inl ⟨by rfl, fun w1 hS1 => ?_⟩) hS ?_
            · go_simp
            simp only [Act.put, List.getElem_toArray, List.getElem_cons_succ, List.getElem_cons_zero, List.setIfInBounds_toArray, List.set_cons_zero, List.set_cons_succ]
            refine wpAnyH_take (i := 3) (v := (.bool true)) rfl (by kernel_rfl) (by kernel_rfl) (by kernel_rfl) (fun _ _ _ h => h) (Or.inl ⟨by rfl, fun w1 hS1 => ?_⟩) hS ?_
            · go_simp
            simp only [Act.put, List.getElem_toArray, List.getElem_cons_succ, List.getElem_cons_zero, List.setIfInBounds_toArray, List.set_cons_zero, List.set_cons_succ]
            refine wpAnyH_take (i := 4) (v := (.agg #[.slice ta g.terms.length tc, .slice na g.names.length nc, .slice ra g.rules.length rc])) rfl (by kernel_rfl) (by kernel_rfl) (by kernel_rfl) (fun _ _ _ h => h) (Or.inl ⟨by rfl, fun w1 hS1 => ?_⟩) hS ?_
            · obtain ⟨_, d0, d1, d2⟩ := hS1; go_simp
            simp only [Act.put, List.getElem_toArray, List.getElem_cons_succ, List.getElem_cons_zero, List.setIfInBounds_toArray, List.set_cons_zero, List.set_cons_succ]
            refine wpAnyH_take (i := 6) (v := (.slice xo l.length xc)) rfl (by kernel_rfl) (by kernel_rfl) (by kernel_rfl) (fun _ _ _ h => h) (Or.inl ⟨by rfl, fun w1 hS1 => ?_⟩) hS ?_
            · go_simp
            simp only [Act.put, List.getElem_toArray, List.getElem_cons_succ, List.getElem_cons_zero, List.setIfInBounds_toArray, List.set_cons_zero, List.set_cons_succ]
            refine wpAnyH_take (i := 8) (v := (.slice yo m.length yc)) rfl (by kernel_rfl) (by kernel_rfl) (by kernel_rfl) (fun _ _ _ h => h) (Or.inl ⟨by rfl, fun w1 hS1 => ?_⟩) hS ?_
            · go_simp
            simp only [Act.put, List.getElem_toArray, List.getElem_cons_succ, List.getElem_cons_zero, List.setIfInBounds_toArray, List.set_cons_zero, List.set_cons_succ]
            refine wpAnyH_take (i := 11) (v := (.bool false)) rfl (by kernel_rfl) (by kernel_rfl) (by kernel_rfl) (fun _ _ _ h => h) (Or.inl ⟨by rfl, fun w1 hS1 => ?_⟩) hS ?_
            · go_simp
            simp only [Act.put, List.getElem_toArray, List.getElem_cons_succ, List.getElem_cons_zero, List.setIfInBounds_toArray, List.set_cons_zero, List.set_cons_succ]
            refine anyH_one (i := 5) (by kernel_rfl) rfl (by rfl) (fun K hK => ?_)
            go_simp
            refine hK.out _ _ (keep_g HC2.out (low_alloc (o := .cells #[] 3) hS.1)) ?_
            replace hS := keep_g HC2.out (low_alloc (o := .cells #[] 3) hS.1)
            clear hK K
            try simp only [Act.put, List.getElem_toArray, List.getElem_cons_succ, List.getElem_cons_zero, List.setIfInBounds_toArray, List.set_cons_zero, List.set_cons_succ]
            refine anyH_one (i := 7) (by kernel_rfl) rfl (by rfl) (fun K hK => ?_)
            (refine wp_copy_ints (.tmp 100) (.tmp 101) rfl _ _ rfl (Empty.new _ _ _ (Nat.le_refl _)) xo xc p (by rw [HQ.out]; rfl) (HPI.out _ hS.1) HP4.out ?_; intro v3 w3' hL3 ho3 _; obtain ⟨a3, c3, rfl⟩ := OwnInts.shape ho3; have hB3 := low_lat hL3 (V := V2) hS.1)
            refine hK.out _ _ (keep_g HC2.out hB3) ?_
            replace hS := keep_g HC2.out hB3
            clear hK K
            try simp only [Act.put, List.getElem_toArray, List.getElem_cons_succ, List.getElem_cons_zero, List.setIfInBounds_toArray, List.set_cons_zero, List.set_cons_succ]
            refine anyH_one (i := 9) (by kernel_rfl) rfl (by rfl) (fun K hK => ?_)
            (refine wp_append_ints (.tmp 102) (.tmp 103) rfl _ _ p rfl ho3 yo yc q (by rw [HQ2.out]; rfl) (HQI.out _ hS.1) HPQ1.out (Below.size hB3) ?_; intro v4 w4' ho4 hg4; obtain ⟨a4, c4, rfl⟩ := OwnInts.shape ho4; have hB4 := low_grown hg4 (V := V2) hS.1 (fun k hk => (World.ownsRow.lt ho3 k hk).1))
            refine hK.out _ _ (keep_g HC2.out hB4) ?_
            replace hS := keep_g HC2.out hB4
            clear hK K
            try simp only [Act.put, List.getElem_toArray, List.getElem_cons_succ, List.getElem_cons_zero, List.setIfInBounds_toArray, List.set_cons_zero, List.set_cons_succ]
            refine anyH_one (i := 10) (by kernel_rfl) rfl (by rfl) (fun K hK => ?_)
            go_simp
            (go_at_call 22; refine Calls.mono (HAA.out _ a4 c4 hB4 (OwnInts.ints ho4)) ?_; rintro e w5' ⟨rfl, hb5⟩; have hB5 := low_lat hb5 (V := V2) hB4)
            refine hK.out _ _ (keep_g HC2.out hB5) ?_
            replace hS := keep_g HC2.out hB5
            clear hK K
            try simp only [Act.put, List.getElem_toArray, List.getElem_cons_succ, List.getElem_cons_zero, List.setIfInBounds_toArray, List.set_cons_zero, List.set_cons_succ]
            refine wpAnyH_take (i := 12) (v := (.bool false)) rfl (by kernel_rfl) (by kernel_rfl) (by kernel_rfl) (fun _ _ _ h => h) (Or.inl ⟨by rfl, fun w1 hS1 => ?_⟩) hS ?_
            · go_simp
            simp only [Act.put, List.getElem_toArray, List.getElem_cons_succ, List.getElem_cons_zero, List.setIfInBounds_toArray, List.set_cons_zero, List.set_cons_succ]
            refine wpAnyH_take (i := 13) (v := undef) rfl (by kernel_rfl) (by kernel_rfl) (by kernel_rfl) (fun _ _ _ h => h) (Or.inr ⟨by rfl, rfl⟩) hS ?_
            simp only [Act.put, List.getElem_toArray, List.getElem_cons_succ, List.getElem_cons_zero, List.setIfInBounds_toArray, List.set_cons_zero, List.set_cons_succ]
            refine wpAnyH_take (i := 14) (v := (.bool false)) rfl (by kernel_rfl) (by kernel_rfl) (by kernel_rfl) (fun _ _ _ h => h) (Or.inl ⟨by rfl, fun w1 hS1 => ?_⟩) hS ?_
            · go_simp
            simp only [Act.put, List.getElem_toArray, List.getElem_cons_succ, List.getElem_cons_zero, List.setIfInBounds_toArray, List.set_cons_zero, List.set_cons_succ]
            refine wpAnyH_take (i := 15) (v := (.bool true)) rfl (by kernel_rfl) (by kernel_rfl) (by kernel_rfl) (fun _ _ _ h => h) (Or.inl ⟨by rfl, fun w1 hS1 => ?_⟩) hS ?_
            · go_simp
            simp only [Act.put, List.getElem_toArray, List.getElem_cons_succ, List.getElem_cons_zero, List.setIfInBounds_toArray, List.set_cons_zero, List.set_cons_succ]
            refine wpAnyH_take (i := 16) (v := (.bool true)) rfl (by kernel_rfl) (by kernel_rfl) (by kernel_rfl) (fun _ _ _ h => h) (Or.inl ⟨by rfl, fun w1 hS1 => ?_⟩) hS ?_
            · go_simp
            simp only [Act.put, List.getElem_toArray, List.getElem_cons_succ, List.getElem_cons_zero, List.setIfInBounds_toArray, List.set_cons_zero, List.set_cons_succ]
            refine wpAnyH_take (i := 17) (v := (.bool true)) rfl (by kernel_rfl) (by kernel_rfl) (by kernel_rfl) (fun _ _ _ h => h) (Or.inl ⟨by rfl, fun w1 hS1 => ?_⟩) hS ?_
            · go_simp
            simp only [Act.put, List.getElem_toArray, List.getElem_cons_succ, List.getElem_cons_zero, List.setIfInBounds_toArray, List.set_cons_zero, List.set_cons_succ]
            refine wpAnyH_take (i := 18) (v := (.agg #[.slice ta g.terms.length tc, .slice na g.names.length nc, .slice ra g.rules.length rc])) rfl (by kernel_rfl) (by kernel_rfl) (by kernel_rfl) (fun _ _ _ h => h) (Or.inl ⟨by rfl, fun w1 hS1 => ?_⟩) hS ?_
            · obtain ⟨_, d0, d1, d2⟩ := hS1; go_simp
            simp only [Act.put, List.getElem_toArray, List.getElem_cons_succ, List.getElem_cons_zero, List.setIfInBounds_toArray, List.set_cons_zero, List.set_cons_succ]
            refine wpAnyH_take (i := 20) (v := (.slice yo m.length yc)) rfl (by kernel_rfl) (by kernel_rfl) (by kernel_rfl) (fun _ _ _ h => h) (Or.inl ⟨by rfl, fun w1 hS1 => ?_⟩) hS ?_
            · go_simp
            simp only [Act.put, List.getElem_toArray, List.getElem_cons_succ, List.getElem_cons_zero, List.setIfInBounds_toArray, List.set_cons_zero, List.set_cons_succ]
            refine wpAnyH_take (i := 22) (v := (.slice xo l.length xc)) rfl (by kernel_rfl) (by kernel_rfl) (by kernel_rfl) (fun _ _ _ h => h) (Or.inl ⟨by rfl, fun w1 hS1 => ?_⟩) hS ?_
            · go_simp
            simp only [Act.put, List.getElem_toArray, List.getElem_cons_succ, List.getElem_cons_zero, List.setIfInBounds_toArray, List.set_cons_zero, List.set_cons_succ]
            refine wpAnyH_take (i := 25) (v := (.bool false)) rfl (by kernel_rfl) (by kernel_rfl) (by kernel_rfl) (fun _ _ _ h => h) (Or.inl ⟨by rfl, fun w1 hS1 => ?_⟩) hS ?_
            · go_simp
            simp only [Act.put, List.getElem_toArray, List.getElem_cons_succ, List.getElem_cons_zero, List.setIfInBounds_toArray, List.set_cons_zero, List.set_cons_succ]
            refine anyH_one (i := 19) (by kernel_rfl) rfl (by rfl) (fun K hK => ?_)
            go_simp
            refine hK.out _ _ (keep_g HC2.out (low_alloc (o := .cells #[] 3) hS.1)) ?_
            replace hS := keep_g HC2.out (low_alloc (o := .cells #[] 3) hS.1)
            clear hK K
            try simp only [Act.put, List.getElem_toArray, List.getElem_cons_succ, List.getElem_cons_zero, List.setIfInBounds_toArray, List.set_cons_zero, List.set_cons_succ]
            refine anyH_one (i := 21) (by kernel_rfl) rfl (by rfl) (fun K hK => ?_)
            (refine wp_copy_ints (.tmp 114) (.tmp 115) rfl _ _ rfl (Empty.new V2.heap.size _ _ (Below.size hB5)) yo yc q (by rw [HQ2.out]; rfl) (HQI.out _ hS.1) HQ4.out ?_; intro v3 w3' hL3 ho3 _; obtain ⟨a3, c3, rfl⟩ := OwnInts.shape ho3; have hB3 := low_lat hL3 (V := V2) hS.1)
            refine hK.out _ _ (keep_g HC2.out hB3) ?_
            replace hS := keep_g HC2.out hB3
            clear hK K
            try simp only [Act.put, List.getElem_toArray, List.getElem_cons_succ, List.getElem_cons_zero, List.setIfInBounds_toArray, List.set_cons_zero, List.set_cons_succ]
            refine anyH_one (i := 23) (by kernel_rfl) rfl (by rfl) (fun K hK => ?_)
            (refine wp_append_ints (.tmp 116) (.tmp 117) rfl _ _ q rfl ho3 xo xc p (by rw [HQ.out]; rfl) (HPI.out _ hS.1) HPQ2.out (Below.size hB3) ?_; intro v6 w6' ho6 hg6; obtain ⟨a6, c6, rfl⟩ := OwnInts.shape ho6; have hB6 := low_grown hg6 (V := V2) hS.1 (fun k hk => (World.ownsRow.lt ho3 k hk).1); clear HAA)
            refine hK.out _ _ (keep_g HC2.out hB6) ?_
            replace hS := keep_g HC2.out hB6
            clear hK K
            try simp only [Act.put, List.getElem_toArray, List.getElem_cons_succ, List.getElem_cons_zero, List.setIfInBounds_toArray, List.set_cons_zero, List.set_cons_succ]
            refine anyH_one (i := 24) (by kernel_rfl) rfl (by rfl) (fun K hK => ?_)
            go_simp
            (go_at_call 22; refine Calls.mono (HAB.out _ a6 c6 hB6 (OwnInts.ints ho6)) ?_; rintro e w7' ⟨rfl, hb7⟩; have hB7 := low_lat hb7 (V := V2) hB6)
            refine hK.out _ _ (keep_g HC2.out hB7) ?_
            replace hS := keep_g HC2.out hB7
            clear hK K
            try simp only [Act.put, List.getElem_toArray, List.getElem_cons_succ, List.getElem_cons_zero, List.setIfInBounds_toArray, List.set_cons_zero, List.set_cons_succ]
            refine wpAnyH_take (i := 26) (v := (.bool false)) rfl (by kernel_rfl) (by kernel_rfl) (by kernel_rfl) (fun _ _ _ h => h) (Or.inl ⟨by rfl, fun w1 hS1 => ?_⟩) hS ?_
            · go_simp
            simp only [Act.put, List.getElem_toArray, List.getElem_cons_succ, List.getElem_cons_zero, List.setIfInBounds_toArray, List.set_cons_zero, List.set_cons_succ]
            refine wpAnyH_take (i := 27) (v := undef) rfl (by kernel_rfl) (by kernel_rfl) (by kernel_rfl) (fun _ _ _ h => h) (Or.inr ⟨by rfl, rfl⟩) hS ?_
            simp only [Act.put, List.getElem_toArray, List.getElem_cons_succ, List.getElem_cons_zero, List.setIfInBounds_toArray, List.set_cons_zero, List.set_cons_succ]
            refine wpAnyH_take (i := 28) (v := (.bool false)) rfl (by kernel_rfl) (by kernel_rfl) (by kernel_rfl) (fun _ _ _ h => h) (Or.inl ⟨by rfl, fun w1 hS1 => ?_⟩) hS ?_
            · go_simp
            simp only [Act.put, List.getElem_toArray, List.getElem_cons_succ, List.getElem_cons_zero, List.setIfInBounds_toArray, List.set_cons_zero, List.set_cons_succ]
            refine wpAnyH_take (i := 29) (v := (.bool true)) rfl (by kernel_rfl) (by kernel_rfl) (by kernel_rfl) (fun _ _ _ h => h) (Or.inl ⟨by rfl, fun w1 hS1 => ?_⟩) hS ?_
            · go_simp
            simp only [Act.put, List.getElem_toArray, List.getElem_cons_succ, List.getElem_cons_zero, List.setIfInBounds_toArray, List.set_cons_zero, List.set_cons_succ]
            refine wpAnyH_take (i := 30) (v := (.bool true)) rfl (by kernel_rfl) (by kernel_rfl) (by kernel_rfl) (fun _ _ _ h => h) (Or.inl ⟨by rfl, fun w1 hS1 => ?_⟩) hS ?_
            · go_simp
            simp only [Act.put, List.getElem_toArray, List.getElem_cons_succ, List.getElem_cons_zero, List.setIfInBounds_toArray, List.set_cons_zero, List.set_cons_succ]
            refine wpAnyH_take (i := 31) (v := (.bool true)) rfl (by kernel_rfl) (by kernel_rfl) (by kernel_rfl) (fun _ _ _ h => h) (Or.inl ⟨by rfl, fun w1 hS1 => ?_⟩) hS ?_
            · go_simp
            simp only [Act.put, List.getElem_toArray, List.getElem_cons_succ, List.getElem_cons_zero, List.setIfInBounds_toArray, List.set_cons_zero, List.set_cons_succ]
            refine anyH_one (i := 32) (by kernel_rfl) rfl (by rfl) (fun K hK => ?_)
            go_simp
            (go_at_call 16; refine Calls.mono (nwakes_any _) ?_; rintro e w8' ⟨rfl, hb8⟩; have hB8 := low_lat hb8 (V := V2) hS.1)
            refine hK.out _ _ (keep_g HC2.out hB8) ?_
            replace hS := keep_g HC2.out hB8
            clear hK K
            try simp only [Act.put, List.getElem_toArray, List.getElem_cons_succ, List.getElem_cons_zero, List.setIfInBounds_toArray, List.set_cons_zero, List.set_cons_succ]
            refine wpAnyH_take (i := 33) (v := (.bool true)) rfl (by kernel_rfl) (by kernel_rfl) (by kernel_rfl) (fun _ _ _ h => h) (Or.inl ⟨by rfl, fun w1 hS1 => ?_⟩) hS ?_
            · go_simp
            simp only [Act.put, List.getElem_toArray, List.getElem_cons_succ, List.getElem_cons_zero, List.setIfInBounds_toArray, List.set_cons_zero, List.set_cons_succ]
            refine wpAnyH_take (i := 34) (v := (.bool true)) rfl (by kernel_rfl) (by kernel_rfl) (by kernel_rfl) (fun _ _ _ h => h) (Or.inl ⟨by rfl, fun w1 hS1 => ?_⟩) hS ?_
            · go_simp
            simp only [Act.put, List.getElem_toArray, List.getElem_cons_succ, List.getElem_cons_zero, List.setIfInBounds_toArray, List.set_cons_zero, List.set_cons_succ]
            refine wpAnyH_done (by kernel_rfl) ?_ _
            have hfin := hS.1
            go_wp2_with fail
            go_ret
            exact ⟨rfl, HBV2.out.trans (Below.mono hfin HBV2.out.size)⟩
          · simp only [Bool.true_and] at HAA HAB
            first | go_region_held3 (fun w' => Below V2.heap.size V2 w' ∧ w'.cell? ⟨w.heap.size, 0, none⟩ = some (.slice ta g.terms.length tc) ∧ w'.cell? ⟨w.heap.size, 1, none⟩ = some (.slice na g.names.length nc) ∧ w'.cell? ⟨w.heap.size, 2, none⟩ = some (.slice ra g.rules.length rc)) (first | exact keep_g HC2.out (by assumption) | exact keep_g HC2.out (low_alloc (And.left (by assumption))) | exact keep_g HC2.out (Below.drew (Below.refl _ _))) (first | (rw [if_pos (by rfl)]; refine wp_copy_ints (.tmp 100) (.tmp 101) rfl _ _ rfl (Empty.new _ _ _ (Nat.le_refl _)) xo xc p (by rw [HQ.out]; rfl) (HPI.out _ (And.left (by assumption))) HP4.out ?_; intro v3 w3' hL3 ho3 _; obtain ⟨a3, c3, rfl⟩ := OwnInts.shape ho3; have hB3 := low_lat hL3 (V := V2) (And.left (by assumption))) | (rw [if_pos (by rfl)]; refine wp_append_ints (.tmp 102) (.tmp 103) rfl _ _ p rfl ho3 yo yc q (by rw [HQ2.out]; rfl) (HQI.out _ (And.left (by assumption))) HPQ1.out (Below.size hB3) ?_; intro v4 w4' ho4 hg4; obtain ⟨a4, c4, rfl⟩ := OwnInts.shape ho4; have hB4 := low_grown hg4 (V := V2) (And.left (by assumption)) (fun k hk => (World.ownsRow.lt ho3 k hk).1)) | (rw [if_pos (by rfl)]; refine wp_copy_ints (.tmp 114) (.tmp 115) rfl _ _ rfl (Empty.new V2.heap.size _ _ (Below.size hB5)) yo yc q (by rw [HQ2.out]; rfl) (HQI.out _ (And.left (by assumption))) HQ4.out ?_; intro v3 w3' hL3 ho3 _; obtain ⟨a3, c3, rfl⟩ := OwnInts.shape ho3; have hB3 := low_lat hL3 (V := V2) (And.left (by assumption))) | (rw [if_pos (by rfl)]; refine wp_append_ints (.tmp 116) (.tmp 117) rfl _ _ q rfl ho3 xo xc p (by rw [HQ.out]; rfl) (HPI.out _ (And.left (by assumption))) HPQ2.out (Below.size hB3) ?_; intro v6 w6' ho6 hg6; obtain ⟨a6, c6, rfl⟩ := OwnInts.shape ho6; have hB6 := low_grown hg6 (V := V2) (And.left (by assumption)) (fun k hk => (World.ownsRow.lt ho3 k hk).1); clear HAA) | (go_at_call 22; refine Calls.mono (HAA.out _ a4 c4 hB4 (OwnInts.ints ho4)) ?_; rintro e w5' ⟨rfl, hb5⟩; have hB5 := low_lat hb5 (V := V2) hB4) | (go_at_call 22; refine Calls.mono (HAB.out _ a6 c6 hB6 (OwnInts.ints ho6)) ?_; rintro e w7' ⟨rfl, hb7⟩; have hB7 := low_lat hb7 (V := V2) hB6) | (go_at_call 16; refine Calls.mono (nwakes_any _) ?_; rintro e w8' ⟨rfl, hb8⟩; have hB8 := low_lat hb8 (V := V2) (And.left (by assumption)))) | fail
            go_wp2_with fail
            go_ret
            exact ⟨rfl, HBV2.out.trans (Below.mono (And.left (by assumption)) HBV2.out.size)⟩

theorem nullableRows_walk (g : Gr.Gm) (A : GA) (ao : Option Addr) (len c : Nat) (zs : List Int) (bo : Option Addr) (len2 d : Nat) (ys : List Int) (w : World) (h : GmAt w.heap.size w g A) (hr : ∀ r ∈ g.rules, r.2.length ≤ maxLen ∧ rlWf r) (hz : IsRow .u8 w ao len c zs) (hy : IsRow .u8 w bo len2 d ys) :
    Calls Try.prog 7 #[.agg (gmCells g A), .slice ao len c, .slice bo len2 d] w fun e w' => e = .returned (.bool true) ∧ Below w.heap.size w w' := by
  have hm : ∀ r ∈ g.rules, r.2.length ≤ maxLen := fun r h => (hr r h).1
  obtain ⟨xs, rfl, hx, _, hwf⟩ := hz.read
  obtain ⟨us, rfl, hu, _, huf⟩ := hy.read
  cases hl : Gr.large g
  · cases hg : Gr.good g
    · exact nullableRows_out g A ao bo c d xs us w h hm (.inr ⟨hl, .inl hg⟩)
    · by_cases h5 : 50 < xs.length
      · exact nullableRows_out g A ao bo c d xs us w h hm (.inr ⟨hl, .inr ⟨hg, .inl h5⟩⟩)
      · by_cases h6 : 50 < us.length
        · exact nullableRows_out g A ao bo c d xs us w h hm (.inr ⟨hl, .inr ⟨hg, .inr ⟨by omega, h6⟩⟩⟩)
        · exact nullableRows_in g A ao bo c d xs us w h hm hl hg (by omega) (by omega) hx (fun x hx => u8_lt6 (hwf x hx)) hu (fun x hx => u8_lt6 (huf x hx))
  · exact nullableRows_out g A ao bo c d xs us w h hm (.inl hl)
end Go.Proofs.Ytimjopaedfefmaa
