/-
  Layer 10 (depend): marked.
-/
import Derived.Test.YtdocbgfpnaiijaaDpLink
import Derived.Test.YtdocbgfpnaiijaaDpMarks
namespace Go.Proofs.Ytdocbgfpnaiijaa
open Go.RowKit Go.Conc

theorem wpFacts_skip11 {P : Program} {ops : Array Oper} {w0 : World} {Q : Exit → Act → World → Prop} {all ss : List Spec} {tl : List Oper} {o : Oper} {rest : List Oper} {vs : List Value} {a : Act} (hw : Region.wanted o (yielded ops a.tmps) = false)
    (h2 : wpFacts P ops Lat w0 Q all tl ss rest (vs ++ [undef]) (a.put o.dst undef)) : wpFacts P ops Lat w0 Q all tl (.val undef :: ss) (o :: rest) vs a :=
  ⟨fun w hR hd => by unfold StepF; rw [if_neg (by rw [hw]; simp)]; rfl, h2⟩
theorem Dp.marks_take (rs : List Gr.Rl) (k : Nat) (h : k < rs.length) : ((List.range (k + 1)).map (Dp.mrow rs [])) = ((List.range k).map (Dp.mrow rs [])) ++ [List.replicate rs[k].2.length false] := by
  rw [List.range_succ, List.map_append, List.map_singleton, Dp.mrow_nil]
  simp [List.getD_eq_getElem?_getD, h]

set_option maxRecDepth 100000 in
set_option maxHeartbeats 12800000 in
theorem marked_any (g : Gr.Gm) (A : GA) (wo : List (Int × Int)) (so : Option Addr) (sc : Nat) (w : World) (hg : Gr.good g = true) (h : GmAt w.heap.size w g A) (hwo : SpotsAt w.heap.size w so wo) (h4 : wo.length ≤ 4000) :
    Calls Try.prog 69 #[.agg (gmCells g A), .slice so wo.length sc] w fun e w' => ∃ io ic, e = .returned (.slice io g.rules.length ic) ∧ (∃ Bs, Hid (MkAt w.heap.size w' (.slice io g.rules.length ic) Bs (Dp.marks g.rules wo))) ∧ Hid (Below w.heap.size w w') := by
  obtain ⟨ta, tc, na, nc, ra, rc⟩ := A
  have HG : Hid (GmAt w.heap.size w g ⟨ta, tc, na, nc, ra, rc⟩) := h
  have HWO : Hid (SpotsAt w.heap.size w so wo) := hwo
  obtain ⟨hsz, h8⟩ := Nl.sizes_of hg
  have H8 : Hid _ := h8
  have hB0 : Hid (Below w.heap.size w (w.alloc (Obj.cells #[.slice ta g.terms.length tc, .slice na g.names.length nc, .slice ra g.rules.length rc] 25))) := (Below.refl _ w).alloc (Nat.le_refl _) _
  have b0 : Hid ((w.alloc (Obj.cells #[.slice ta g.terms.length tc, .slice na g.names.length nc, .slice ra g.rules.length rc] 25)).heap[w.heap.size]? = some (.cells #[.slice ta g.terms.length tc, .slice na g.names.length nc, .slice ra g.rules.length rc] 25 (0, 0))) := heap_alloc_new w _
  clear h hwo h8 hg
  simp only [gmCells]
  go_enter Try.func69, Try.ntmps69
  go_upto_region 2 with fail
  generalize (w.alloc (Obj.cells #[.slice ta g.terms.length tc, .slice na g.names.length nc, .slice ra g.rules.length rc] 25)) = W at *
  obtain ⟨g0, g1, g2, _⟩ := cells_three_z b0.out
  have hgz := (Array.getElem?_eq_some_iff.1 b0.out).1
  have hWz := hB0.out.size
  obtain ⟨rb, ro, hra⟩ : ∃ rb ro, ra = some ⟨rb, ro, none⟩ := by
    obtain ⟨rb, ro, _, _, e, _⟩ := HG.out.rules 0 (by omega)
    exact ⟨rb, ro, e⟩
  subst hra
  have M0 : Hid (MkAt w.heap.size W (.slice none 0 0) [] ((List.range 0).map (Dp.mrow g.rules []))) := MkAt.nil _ _
  go_wp2_with fail
  clear g0 g1 g2 hgz b0
  go_loopw [5, 13] (fun v iv wr => ∃ (i : Nat) (io : Option Addr) (ic : Nat) (Bs : List Nat), i ≤ g.rules.length ∧ v = .slice io i ic ∧ iv = .int .i64 i ∧ Hid (MkAt w.heap.size wr (.slice io i ic) Bs ((List.range i).map (Dp.mrow g.rules []))) ∧ Hid (Below w.heap.size w wr)) (fun _ iv _ => g.rules.length - (intOf iv).toNat)
  case atStart => exact ⟨0, none, 0, [], Nat.zero_le _, rfl, rfl, M0, hB0⟩
  case round =>
    obtain ⟨i, io, ic, Bs, hi, rfl, rfl, hM, hB⟩ := hrel
    clear M0 hB0
    by_cases hil : i < g.rules.length
    · have hii : (i : Int) < (g.rules.length : Int) := by omega
      obtain ⟨rb2, ro2, yo, yc, e, _, _, k0, k1, _⟩ := HG.out.rules i hil
      simp only [Option.some.injEq, Addr.mk.injEq] at e
      obtain ⟨rfl, rfl, _⟩ := e
      replace k0 := cell_later hB.out k0
      replace k1 := cell_later hB.out k1
      have h8 := H8.out _ (List.getElem_mem hil)
      have MT : Hid _ := Dp.marks_take g.rules i hil
      have hrb := World.block_lt_of_cell? _ _ k0
      generalize g.rules[i] = y at *
      obtain ⟨l, rs⟩ := y
      simp only at k0 k1 h8 MT
      have hbn : Hid (Below wr.heap.size wr (wr.alloc (Obj.cells #[.int .i64 l, .slice yo rs.length yc] 31))) := (Below.refl _ wr).alloc (Nat.le_refl _) _
      have kn : Hid ((wr.alloc (Obj.cells #[.int .i64 l, .slice yo rs.length yc] 31)).heap[wr.heap.size]? = some (.cells #[.int .i64 l, .slice yo rs.length yc] 31 (0, 0))) := heap_alloc_new wr _
      have hM1 : Hid _ := hM.out.later hbn.out
      have hB1 : Hid (Below w.heap.size w (wr.alloc (Obj.cells #[.int .i64 l, .slice yo rs.length yc] 31))) := hB.out.trans (hbn.out.mono hB.out.size)
      go_upto_region 5 with fail
      generalize (wr.alloc (Obj.cells #[.int .i64 l, .slice yo rs.length yc] 31)) = Wr at *
      generalize wr.heap.size = R at *
      clear k0 k1 hM hB hbn
      obtain ⟨r0, r1, _⟩ := cells_two_z kn.out
      have hrz := (Array.getElem?_eq_some_iff.1 kn.out).1
      have hmk := make_boolsN rs.length (by omega)
      have hq1 : Hid (Below Wr.heap.size Wr (Wr.alloc (.cells (Array.replicate rs.length (Value.bool false)) 4))) := (Below.refl _ Wr).alloc (Nat.le_refl _) _
      have hq2 : Hid (Below Wr.heap.size Wr ((Wr.alloc (.cells (Array.replicate rs.length (Value.bool false)) 4)).alloc (Obj.cells #[.slice (some ⟨Wr.heap.size, 0, none⟩) rs.length rs.length] 28))) := hq1.out.alloc hq1.out.size _
      have HM2 : Hid _ := hM1.out.later hq2.out
      have HBk : Hid (((Wr.alloc (.cells (Array.replicate rs.length (Value.bool false)) 4)).alloc (Obj.cells #[.slice (some ⟨Wr.heap.size, 0, none⟩) rs.length rs.length] 28)).heap[Wr.heap.size]? = some (.cells ((List.replicate rs.length false).map Value.bool).toArray 4 (0, 0))) := by
        show _ = _
        rw [Below.heap_alloc _ _ _ (by simp), heap_alloc_new]; simp
      have HBn : Wr.heap.size ∉ Bs := fun q => by have := hM1.out.lt _ q; omega
      have HB2 : Hid (Below w.heap.size w ((Wr.alloc (.cells (Array.replicate rs.length (Value.bool false)) 4)).alloc (Obj.cells #[.slice (some ⟨Wr.heap.size, 0, none⟩) rs.length rs.length] 28))) := hB1.out.trans (hq2.out.mono hB1.out.size)
      have hbase := HB2.out.size
      have hbW := hB1.out.size
      have hml : ((List.range i).map (Dp.mrow g.rules [])).length = i := by simp
      clear hM1 hB1 hq1 hq2
      go_wp2_with (at_builtin; refine wpList_append_brow rfl _ _ rfl w.heap.size _ Bs _ rfl HM2.out (Wr.heap.size + 1) 1 Wr.heap.size (List.replicate rs.length false) rfl (by simp [rowV, go_sem]) HBk.out hbW HBn (by rw [hml]; omega) hbase ?_; intro ga cap w8 ho8 hg8)
      have HM8 : Hid (MkAt w.heap.size w8 (.slice (some ⟨ga, 0, none⟩) (i + 1) cap) (Bs ++ [Wr.heap.size]) ((List.range (i + 1)).map (Dp.mrow g.rules []))) := by
        show MkAt _ _ _ _ _
        rw [MT.out]; rw [hml] at ho8; exact ho8
      have HB8 : Hid (Below w.heap.size w w8) := HB2.out.grown hg8 hbase (fun q hq => (HM2.out.own.lt q hq).1)
      clear ho8 hg8 HM2 HB2 HBk r0 r1 hrz kn
      go_roundw
      case rel => exact ⟨i + 1, _, _, _, by omega, rfl, by go_num, HM8, HB8⟩
      case measure => simp [intOf]; omega
    · obtain rfl : i = g.rules.length := by omega
      have hii : ¬ (g.rules.length : Int) < (g.rules.length : Int) := by omega
      have hMl : (Dp.marks g.rules []).length = g.rules.length := Dp.marks_len _ _
      obtain ⟨ib, ic2, e, _, _, _, _⟩ := MkAt.read (ms := Dp.marks g.rules []) hM.out (by rw [hMl]; omega)
      rw [hMl] at e
      simp only [Value.slice.injEq] at e
      obtain ⟨rfl, _, rfl⟩ := e
      have M1 : Hid (MkAt w.heap.size wr (.slice (some ⟨ib, 0, none⟩) g.rules.length ic) Bs (Dp.marks g.rules (wo.take 0))) := hM.out
      clear hM
      go_wp2_with fail
      go_loopw [27] (fun iv wr => ∃ m : Nat, m ≤ wo.length ∧ iv = .int .i64 m ∧ Hid (MkAt w.heap.size wr (.slice (some ⟨ib, 0, none⟩) g.rules.length ic) Bs (Dp.marks g.rules (wo.take m))) ∧ Hid (Below w.heap.size w wr)) (fun iv _ => wo.length - (intOf iv).toNat)
      case atStart => exact ⟨0, Nat.zero_le _, rfl, M1, hB⟩
      case round =>
        obtain ⟨m, hm, rfl, hM, hB⟩ := hrel
        clear M1
        by_cases hml : m < wo.length
        · have hmi : (m : Int) < (wo.length : Int) := by omega
          obtain ⟨xb, xof, rfl, _, _, x0, x1⟩ := (HWO.out.later hB.out) m hml
          have TK : Hid (wo.take (m + 1) = wo.take m ++ [wo[m]]) := by show _ = _; rw [List.take_add_one, List.getElem?_eq_getElem hml]; rfl
          have hxl := World.block_lt_of_cell? _ _ x0
          generalize wo[m] = s at *
          obtain ⟨s1, s2⟩ := s
          simp only at x0 x1
          have hb2 : Hid (Below wr.heap.size wr (wr.alloc (Obj.cells #[.int .i64 s1, .int .i64 s2] 48))) := (Below.refl _ wr).alloc (Nat.le_refl _) _
          have kn : Hid ((wr.alloc (Obj.cells #[.int .i64 s1, .int .i64 s2] 48)).heap[wr.heap.size]? = some (.cells #[.int .i64 s1, .int .i64 s2] 48 (0, 0))) := heap_alloc_new wr _
          go_upto_region 10 with fail
          generalize (wr.alloc (Obj.cells #[.int .i64 s1, .int .i64 s2] 48)) = W2 at *
          obtain ⟨R, hR⟩ : ∃ R, wr.heap.size = R := ⟨_, rfl⟩
          rw [hR] at kn ⊢
          clear x0 x1 hR
          have HC : Hid (∀ w1 : World, Lat W2.drew w1 → w1.cell? ⟨R, 0, none⟩ = some (.int .i64 s1) ∧ w1.cell? ⟨R, 1, none⟩ = some (.int .i64 s2)) := fun w1 hL => by
            obtain ⟨q0, q1, _⟩ := cells_two_z kn.out
            exact ⟨cell_later hL.of_drew q0, cell_later hL.of_drew q1⟩
          by_cases hs0 : s1 < 0
          · refine wp_region_lat [.val (.pointer (some ⟨R, 0, none⟩)), .val (.int .i64 s1), .val (.bool true), .val (.bool true), .val undef, .val undef, .val undef, .val undef, .val undef, .val (.bool true), .val (.bool true), .val undef, .val undef, .val undef, .val (.bool true), .val (.bool true), .val undef, .val undef, .val undef, .val undef, .val undef, .val undef, .val undef, .val undef, .val undef, .val (.bool true)] [] (by kernel_rfl) (by kernel_rfl) rfl ?kepta ?walka
            case kepta => exact trivial
            case walka =>
              refine wpFacts_val (by rfl) (fun w1 hL hd K hK => ?_) ?_
              · go_simp
                exact hK _ (Lat.refl _)
              refine wpFacts_norm (by simp only [Act.put, List.setIfInBounds_toArray, List.set_cons_zero, List.set_cons_succ]; rfl) (by simp only [List.nil_append]; rfl) ?_
              refine wpFacts_val (by rfl) (fun w1 hL hd K hK => ?_) ?_
              · obtain ⟨d0, d1⟩ := HC.out w1 hL
                go_simp
                exact hK _ (Lat.refl _)
              refine wpFacts_norm (by simp only [Act.put, List.setIfInBounds_toArray, List.set_cons_zero, List.set_cons_succ]; rfl) (by simp only [List.cons_append, List.nil_append]; rfl) ?_
              refine wpFacts_val (by rfl) (fun w1 hL hd K hK => ?_) ?_
              · go_simp
                exact hK _ (Lat.refl _)
              refine wpFacts_norm (by simp only [Act.put, List.setIfInBounds_toArray, List.set_cons_zero, List.set_cons_succ]; rfl) (by simp only [List.cons_append, List.nil_append]; rfl) ?_
              refine wpFacts_val (by rfl) (fun w1 hL hd K hK => ?_) ?_
              · go_simp
                exact hK _ (Lat.refl _)
              refine wpFacts_norm (by simp only [Act.put, List.setIfInBounds_toArray, List.set_cons_zero, List.set_cons_succ]; rfl) (by simp only [List.cons_append, List.nil_append]; rfl) ?_
              refine wpFacts_skip11 (by rfl) ?_
              refine wpFacts_norm (by simp only [Act.put, List.setIfInBounds_toArray, List.set_cons_zero, List.set_cons_succ]; rfl) (by simp only [List.cons_append, List.nil_append]; rfl) ?_
              refine wpFacts_skip11 (by rfl) ?_
              refine wpFacts_norm (by simp only [Act.put, List.setIfInBounds_toArray, List.set_cons_zero, List.set_cons_succ]; rfl) (by simp only [List.cons_append, List.nil_append]; rfl) ?_
              refine wpFacts_skip11 (by rfl) ?_
              refine wpFacts_norm (by simp only [Act.put, List.setIfInBounds_toArray, List.set_cons_zero, List.set_cons_succ]; rfl) (by simp only [List.cons_append, List.nil_append]; rfl) ?_
              refine wpFacts_skip11 (by rfl) ?_
              refine wpFacts_norm (by simp only [Act.put, List.setIfInBounds_toArray, List.set_cons_zero, List.set_cons_succ]; rfl) (by simp only [List.cons_append, List.nil_append]; rfl) ?_
              refine wpFacts_skip11 (by rfl) ?_
              refine wpFacts_norm (by simp only [Act.put, List.setIfInBounds_toArray, List.set_cons_zero, List.set_cons_succ]; rfl) (by simp only [List.cons_append, List.nil_append]; rfl) ?_
              refine wpFacts_val (by rfl) (fun w1 hL hd K hK => ?_) ?_
              · go_simp
                exact hK _ (Lat.refl _)
              refine wpFacts_norm (by simp only [Act.put, List.setIfInBounds_toArray, List.set_cons_zero, List.set_cons_succ]; rfl) (by simp only [List.cons_append, List.nil_append]; rfl) ?_
              refine wpFacts_val (by rfl) (fun w1 hL hd K hK => ?_) ?_
              · go_simp
                exact hK _ (Lat.refl _)
              refine wpFacts_norm (by simp only [Act.put, List.setIfInBounds_toArray, List.set_cons_zero, List.set_cons_succ]; rfl) (by simp only [List.cons_append, List.nil_append]; rfl) ?_
              refine wpFacts_skip11 (by rfl) ?_
              refine wpFacts_norm (by simp only [Act.put, List.setIfInBounds_toArray, List.set_cons_zero, List.set_cons_succ]; rfl) (by simp only [List.cons_append, List.nil_append]; rfl) ?_
              refine wpFacts_skip11 (by rfl) ?_
              refine wpFacts_norm (by simp only [Act.put, List.setIfInBounds_toArray, List.set_cons_zero, List.set_cons_succ]; rfl) (by simp only [List.cons_append, List.nil_append]; rfl) ?_
              refine wpFacts_skip11 (by rfl) ?_
              refine wpFacts_norm (by simp only [Act.put, List.setIfInBounds_toArray, List.set_cons_zero, List.set_cons_succ]; rfl) (by simp only [List.cons_append, List.nil_append]; rfl) ?_
              refine wpFacts_val (by rfl) (fun w1 hL hd K hK => ?_) ?_
              · go_simp
                exact hK _ (Lat.refl _)
              refine wpFacts_norm (by simp only [Act.put, List.setIfInBounds_toArray, List.set_cons_zero, List.set_cons_succ]; rfl) (by simp only [List.cons_append, List.nil_append]; rfl) ?_
              refine wpFacts_val (by rfl) (fun w1 hL hd K hK => ?_) ?_
              · go_simp
                exact hK _ (Lat.refl _)
              refine wpFacts_norm (by simp only [Act.put, List.setIfInBounds_toArray, List.set_cons_zero, List.set_cons_succ]; rfl) (by simp only [List.cons_append, List.nil_append]; rfl) ?_
              refine wpFacts_skip11 (by rfl) ?_
              refine wpFacts_norm (by simp only [Act.put, List.setIfInBounds_toArray, List.set_cons_zero, List.set_cons_succ]; rfl) (by simp only [List.cons_append, List.nil_append]; rfl) ?_
              refine wpFacts_skip11 (by rfl) ?_
              refine wpFacts_norm (by simp only [Act.put, List.setIfInBounds_toArray, List.set_cons_zero, List.set_cons_succ]; rfl) (by simp only [List.cons_append, List.nil_append]; rfl) ?_
              refine wpFacts_skip11 (by rfl) ?_
              refine wpFacts_norm (by simp only [Act.put, List.setIfInBounds_toArray, List.set_cons_zero, List.set_cons_succ]; rfl) (by simp only [List.cons_append, List.nil_append]; rfl) ?_
              refine wpFacts_skip11 (by rfl) ?_
              refine wpFacts_norm (by simp only [Act.put, List.setIfInBounds_toArray, List.set_cons_zero, List.set_cons_succ]; rfl) (by simp only [List.cons_append, List.nil_append]; rfl) ?_
              refine wpFacts_skip11 (by rfl) ?_
              refine wpFacts_norm (by simp only [Act.put, List.setIfInBounds_toArray, List.set_cons_zero, List.set_cons_succ]; rfl) (by simp only [List.cons_append, List.nil_append]; rfl) ?_
              refine wpFacts_skip11 (by rfl) ?_
              refine wpFacts_norm (by simp only [Act.put, List.setIfInBounds_toArray, List.set_cons_zero, List.set_cons_succ]; rfl) (by simp only [List.cons_append, List.nil_append]; rfl) ?_
              refine wpFacts_skip11 (by rfl) ?_
              refine wpFacts_norm (by simp only [Act.put, List.setIfInBounds_toArray, List.set_cons_zero, List.set_cons_succ]; rfl) (by simp only [List.cons_append, List.nil_append]; rfl) ?_
              refine wpFacts_skip11 (by rfl) ?_
              refine wpFacts_norm (by simp only [Act.put, List.setIfInBounds_toArray, List.set_cons_zero, List.set_cons_succ]; rfl) (by simp only [List.cons_append, List.nil_append]; rfl) ?_
              refine wpFacts_skip11 (by rfl) ?_
              refine wpFacts_norm (by simp only [Act.put, List.setIfInBounds_toArray, List.set_cons_zero, List.set_cons_succ]; rfl) (by simp only [List.cons_append, List.nil_append]; rfl) ?_
              refine wpFacts_val (by rfl) (fun w1 hL hd K hK => ?_) ?_
              · go_simp
                exact hK _ (Lat.refl _)
              refine wpFacts_norm (by simp only [Act.put, List.setIfInBounds_toArray, List.set_cons_zero, List.set_cons_succ]; rfl) (by simp only [List.cons_append, List.nil_append]; rfl) ?_
              intro wz hLz haz
              clear haz
              have MZ : Hid (MkAt w.heap.size wz (.slice (some ⟨ib, 0, none⟩) g.rules.length ic) Bs (Dp.marks g.rules (wo.take (m + 1)))) := by
                show MkAt _ _ _ _ _
                rw [TK.out, Dp.marks_out (by rintro ⟨⟨q, _⟩, _⟩; simp only at q; omega)]
                exact hM.out.later (hb2.out.trans (Below.mono hLz.of_drew hb2.out.size))
              have BZ : Hid (Below w.heap.size w wz) := hB.out.trans ((hb2.out.trans (Below.mono hLz.of_drew hb2.out.size)).mono hB.out.size)
              clear hLz hM hB HC hb2 TK
              go_wp2_with fail
              go_roundw
              case rel => exact ⟨m + 1, by omega, by go_num, MZ, BZ⟩
              case measure => simp [intOf]; omega
          · by_cases hs1 : (g.rules.length : Int) ≤ s1
            · refine wp_region_lat [.val (.pointer (some ⟨R, 0, none⟩)), .val (.int .i64 s1), .val (.bool false), .val (.bool false), .val (.pointer (some ⟨R, 0, none⟩)), .val (.int .i64 s1), .val (.slice (some ⟨ib, 0, none⟩) g.rules.length ic), .val (.int .i64 (g.rules.length : Int)), .val (.bool true), .val (.bool true), .val (.bool true), .val undef, .val undef, .val undef, .val (.bool true), .val (.bool true), .val undef, .val undef, .val undef, .val undef, .val undef, .val undef, .val undef, .val undef, .val undef, .val (.bool true)] [] (by kernel_rfl) (by kernel_rfl) rfl ?keptb ?walkb
              case keptb => exact trivial
              case walkb =>
                refine wpFacts_val (by rfl) (fun w1 hL hd K hK => ?_) ?_
                · go_simp
                  exact hK _ (Lat.refl _)
                refine wpFacts_norm (by simp only [Act.put, List.setIfInBounds_toArray, List.set_cons_zero, List.set_cons_succ]; rfl) (by simp only [List.nil_append]; rfl) ?_
                refine wpFacts_val (by rfl) (fun w1 hL hd K hK => ?_) ?_
                · obtain ⟨d0, d1⟩ := HC.out w1 hL
                  go_simp
                  exact hK _ (Lat.refl _)
                refine wpFacts_norm (by simp only [Act.put, List.setIfInBounds_toArray, List.set_cons_zero, List.set_cons_succ]; rfl) (by simp only [List.cons_append, List.nil_append]; rfl) ?_
                refine wpFacts_val (by rfl) (fun w1 hL hd K hK => ?_) ?_
                · go_simp
                  exact hK _ (Lat.refl _)
                refine wpFacts_norm (by simp only [Act.put, List.setIfInBounds_toArray, List.set_cons_zero, List.set_cons_succ]; rfl) (by simp only [List.cons_append, List.nil_append]; rfl) ?_
                refine wpFacts_val (by rfl) (fun w1 hL hd K hK => ?_) ?_
                · go_simp
                  exact hK _ (Lat.refl _)
                refine wpFacts_norm (by simp only [Act.put, List.setIfInBounds_toArray, List.set_cons_zero, List.set_cons_succ]; rfl) (by simp only [List.cons_append, List.nil_append]; rfl) ?_
                refine wpFacts_val (by rfl) (fun w1 hL hd K hK => ?_) ?_
                · go_simp
                  exact hK _ (Lat.refl _)
                refine wpFacts_norm (by simp only [Act.put, List.setIfInBounds_toArray, List.set_cons_zero, List.set_cons_succ]; rfl) (by simp only [List.cons_append, List.nil_append]; rfl) ?_
                refine wpFacts_val (by rfl) (fun w1 hL hd K hK => ?_) ?_
                · obtain ⟨d0, d1⟩ := HC.out w1 hL
                  go_simp
                  exact hK _ (Lat.refl _)
                refine wpFacts_norm (by simp only [Act.put, List.setIfInBounds_toArray, List.set_cons_zero, List.set_cons_succ]; rfl) (by simp only [List.cons_append, List.nil_append]; rfl) ?_
                refine wpFacts_val (by rfl) (fun w1 hL hd K hK => ?_) ?_
                · go_simp
                  exact hK _ (Lat.refl _)
                refine wpFacts_norm (by simp only [Act.put, List.setIfInBounds_toArray, List.set_cons_zero, List.set_cons_succ]; rfl) (by simp only [List.cons_append, List.nil_append]; rfl) ?_
                refine wpFacts_val (by rfl) (fun w1 hL hd K hK => ?_) ?_
                · go_simp
                  exact hK _ (Lat.refl _)
                refine wpFacts_norm (by simp only [Act.put, List.setIfInBounds_toArray, List.set_cons_zero, List.set_cons_succ]; rfl) (by simp only [List.cons_append, List.nil_append]; rfl) ?_
                refine wpFacts_val (by rfl) (fun w1 hL hd K hK => ?_) ?_
                · go_simp
                  exact hK _ (Lat.refl _)
                refine wpFacts_norm (by simp only [Act.put, List.setIfInBounds_toArray, List.set_cons_zero, List.set_cons_succ]; rfl) (by simp only [List.cons_append, List.nil_append]; rfl) ?_
                refine wpFacts_val (by rfl) (fun w1 hL hd K hK => ?_) ?_
                · go_simp
                  exact hK _ (Lat.refl _)
                refine wpFacts_norm (by simp only [Act.put, List.setIfInBounds_toArray, List.set_cons_zero, List.set_cons_succ]; rfl) (by simp only [List.cons_append, List.nil_append]; rfl) ?_
                refine wpFacts_val (by rfl) (fun w1 hL hd K hK => ?_) ?_
                · go_simp
                  exact hK _ (Lat.refl _)
                refine wpFacts_norm (by simp only [Act.put, List.setIfInBounds_toArray, List.set_cons_zero, List.set_cons_succ]; rfl) (by simp only [List.cons_append, List.nil_append]; rfl) ?_
                refine wpFacts_skip11 (by rfl) ?_
                refine wpFacts_norm (by simp only [Act.put, List.setIfInBounds_toArray, List.set_cons_zero, List.set_cons_succ]; rfl) (by simp only [List.cons_append, List.nil_append]; rfl) ?_
                refine wpFacts_skip11 (by rfl) ?_
                refine wpFacts_norm (by simp only [Act.put, List.setIfInBounds_toArray, List.set_cons_zero, List.set_cons_succ]; rfl) (by simp only [List.cons_append, List.nil_append]; rfl) ?_
                refine wpFacts_skip11 (by rfl) ?_
                refine wpFacts_norm (by simp only [Act.put, List.setIfInBounds_toArray, List.set_cons_zero, List.set_cons_succ]; rfl) (by simp only [List.cons_append, List.nil_append]; rfl) ?_
                refine wpFacts_val (by rfl) (fun w1 hL hd K hK => ?_) ?_
                · go_simp
                  exact hK _ (Lat.refl _)
                refine wpFacts_norm (by simp only [Act.put, List.setIfInBounds_toArray, List.set_cons_zero, List.set_cons_succ]; rfl) (by simp only [List.cons_append, List.nil_append]; rfl) ?_
                refine wpFacts_val (by rfl) (fun w1 hL hd K hK => ?_) ?_
                · go_simp
                  exact hK _ (Lat.refl _)
                refine wpFacts_norm (by simp only [Act.put, List.setIfInBounds_toArray, List.set_cons_zero, List.set_cons_succ]; rfl) (by simp only [List.cons_append, List.nil_append]; rfl) ?_
                refine wpFacts_skip11 (by rfl) ?_
                refine wpFacts_norm (by simp only [Act.put, List.setIfInBounds_toArray, List.set_cons_zero, List.set_cons_succ]; rfl) (by simp only [List.cons_append, List.nil_append]; rfl) ?_
                refine wpFacts_skip11 (by rfl) ?_
                refine wpFacts_norm (by simp only [Act.put, List.setIfInBounds_toArray, List.set_cons_zero, List.set_cons_succ]; rfl) (by simp only [List.cons_append, List.nil_append]; rfl) ?_
                refine wpFacts_skip11 (by rfl) ?_
                refine wpFacts_norm (by simp only [Act.put, List.setIfInBounds_toArray, List.set_cons_zero, List.set_cons_succ]; rfl) (by simp only [List.cons_append, List.nil_append]; rfl) ?_
                refine wpFacts_skip11 (by rfl) ?_
                refine wpFacts_norm (by simp only [Act.put, List.setIfInBounds_toArray, List.set_cons_zero, List.set_cons_succ]; rfl) (by simp only [List.cons_append, List.nil_append]; rfl) ?_
                refine wpFacts_skip11 (by rfl) ?_
                refine wpFacts_norm (by simp only [Act.put, List.setIfInBounds_toArray, List.set_cons_zero, List.set_cons_succ]; rfl) (by simp only [List.cons_append, List.nil_append]; rfl) ?_
                refine wpFacts_skip11 (by rfl) ?_
                refine wpFacts_norm (by simp only [Act.put, List.setIfInBounds_toArray, List.set_cons_zero, List.set_cons_succ]; rfl) (by simp only [List.cons_append, List.nil_append]; rfl) ?_
                refine wpFacts_skip11 (by rfl) ?_
                refine wpFacts_norm (by simp only [Act.put, List.setIfInBounds_toArray, List.set_cons_zero, List.set_cons_succ]; rfl) (by simp only [List.cons_append, List.nil_append]; rfl) ?_
                refine wpFacts_skip11 (by rfl) ?_
                refine wpFacts_norm (by simp only [Act.put, List.setIfInBounds_toArray, List.set_cons_zero, List.set_cons_succ]; rfl) (by simp only [List.cons_append, List.nil_append]; rfl) ?_
                refine wpFacts_skip11 (by rfl) ?_
                refine wpFacts_norm (by simp only [Act.put, List.setIfInBounds_toArray, List.set_cons_zero, List.set_cons_succ]; rfl) (by simp only [List.cons_append, List.nil_append]; rfl) ?_
                refine wpFacts_val (by rfl) (fun w1 hL hd K hK => ?_) ?_
                · go_simp
                  exact hK _ (Lat.refl _)
                refine wpFacts_norm (by simp only [Act.put, List.setIfInBounds_toArray, List.set_cons_zero, List.set_cons_succ]; rfl) (by simp only [List.cons_append, List.nil_append]; rfl) ?_
                intro wz hLz haz
                clear haz
                have MZ : Hid (MkAt w.heap.size wz (.slice (some ⟨ib, 0, none⟩) g.rules.length ic) Bs (Dp.marks g.rules (wo.take (m + 1)))) := by
                  show MkAt _ _ _ _ _
                  rw [TK.out, Dp.marks_out (by rintro ⟨⟨_, q⟩, _⟩; simp only at q; omega)]
                  exact hM.out.later (hb2.out.trans (Below.mono hLz.of_drew hb2.out.size))
                have BZ : Hid (Below w.heap.size w wz) := hB.out.trans ((hb2.out.trans (Below.mono hLz.of_drew hb2.out.size)).mono hB.out.size)
                clear hLz hM hB HC hb2 TK
                go_wp2_with fail
                go_roundw
                case rel => exact ⟨m + 1, by omega, by go_num, MZ, BZ⟩
                case measure => simp [intOf]; omega
            · obtain ⟨i, rfl⟩ : ∃ i : Nat, s1 = i := ⟨s1.toNat, by omega⟩
              have hil : i < g.rules.length := by omega
              have hii : (i : Int) < (g.rules.length : Int) := by omega
              by_cases ht0 : s2 < 0
              · refine wp_region_lat [.val (.pointer (some ⟨R, 0, none⟩)), .val (.int .i64 (i : Int)), .val (.bool false), .val (.bool false), .val (.pointer (some ⟨R, 0, none⟩)), .val (.int .i64 (i : Int)), .val (.slice (some ⟨ib, 0, none⟩) g.rules.length ic), .val (.int .i64 (g.rules.length : Int)), .val (.bool false), .val (.bool false), .val (.bool false), .val (.pointer (some ⟨R, 1, none⟩)), .val (.int .i64 s2), .val (.bool true), .val (.bool true), .val (.bool true), .val undef, .val undef, .val undef, .val undef, .val undef, .val undef, .val undef, .val undef, .val undef, .val (.bool true)] [] (by kernel_rfl) (by kernel_rfl) rfl ?keptc ?walkc
                case keptc => exact trivial
                case walkc =>
                  refine wpFacts_val (by rfl) (fun w1 hL hd K hK => ?_) ?_
                  · go_simp
                    exact hK _ (Lat.refl _)
                  refine wpFacts_norm (by simp only [Act.put, List.setIfInBounds_toArray, List.set_cons_zero, List.set_cons_succ]; rfl) (by simp only [List.nil_append]; rfl) ?_
                  refine wpFacts_val (by rfl) (fun w1 hL hd K hK => ?_) ?_
                  · obtain ⟨d0, d1⟩ := HC.out w1 hL
                    go_simp
                    exact hK _ (Lat.refl _)
                  refine wpFacts_norm (by simp only [Act.put, List.setIfInBounds_toArray, List.set_cons_zero, List.set_cons_succ]; rfl) (by simp only [List.cons_append, List.nil_append]; rfl) ?_
                  refine wpFacts_val (by rfl) (fun w1 hL hd K hK => ?_) ?_
                  · go_simp
                    exact hK _ (Lat.refl _)
                  refine wpFacts_norm (by simp only [Act.put, List.setIfInBounds_toArray, List.set_cons_zero, List.set_cons_succ]; rfl) (by simp only [List.cons_append, List.nil_append]; rfl) ?_
                  refine wpFacts_val (by rfl) (fun w1 hL hd K hK => ?_) ?_
                  · go_simp
                    exact hK _ (Lat.refl _)
                  refine wpFacts_norm (by simp only [Act.put, List.setIfInBounds_toArray, List.set_cons_zero, List.set_cons_succ]; rfl) (by simp only [List.cons_append, List.nil_append]; rfl) ?_
                  refine wpFacts_val (by rfl) (fun w1 hL hd K hK => ?_) ?_
                  · go_simp
                    exact hK _ (Lat.refl _)
                  refine wpFacts_norm (by simp only [Act.put, List.setIfInBounds_toArray, List.set_cons_zero, List.set_cons_succ]; rfl) (by simp only [List.cons_append, List.nil_append]; rfl) ?_
                  refine wpFacts_val (by rfl) (fun w1 hL hd K hK => ?_) ?_
                  · obtain ⟨d0, d1⟩ := HC.out w1 hL
                    go_simp
                    exact hK _ (Lat.refl _)
                  refine wpFacts_norm (by simp only [Act.put, List.setIfInBounds_toArray, List.set_cons_zero, List.set_cons_succ]; rfl) (by simp only [List.cons_append, List.nil_append]; rfl) ?_
                  refine wpFacts_val (by rfl) (fun w1 hL hd K hK => ?_) ?_
                  · go_simp
                    exact hK _ (Lat.refl _)
                  refine wpFacts_norm (by simp only [Act.put, List.setIfInBounds_toArray, List.set_cons_zero, List.set_cons_succ]; rfl) (by simp only [List.cons_append, List.nil_append]; rfl) ?_
                  refine wpFacts_val (by rfl) (fun w1 hL hd K hK => ?_) ?_
                  · go_simp
                    exact hK _ (Lat.refl _)
                  refine wpFacts_norm (by simp only [Act.put, List.setIfInBounds_toArray, List.set_cons_zero, List.set_cons_succ]; rfl) (by simp only [List.cons_append, List.nil_append]; rfl) ?_
                  refine wpFacts_val (by rfl) (fun w1 hL hd K hK => ?_) ?_
                  · go_simp
                    exact hK _ (Lat.refl _)
                  refine wpFacts_norm (by simp only [Act.put, List.setIfInBounds_toArray, List.set_cons_zero, List.set_cons_succ]; rfl) (by simp only [List.cons_append, List.nil_append]; rfl) ?_
                  refine wpFacts_val (by rfl) (fun w1 hL hd K hK => ?_) ?_
                  · go_simp
                    exact hK _ (Lat.refl _)
                  refine wpFacts_norm (by simp only [Act.put, List.setIfInBounds_toArray, List.set_cons_zero, List.set_cons_succ]; rfl) (by simp only [List.cons_append, List.nil_append]; rfl) ?_
                  refine wpFacts_val (by rfl) (fun w1 hL hd K hK => ?_) ?_
                  · go_simp
                    exact hK _ (Lat.refl _)
                  refine wpFacts_norm (by simp only [Act.put, List.setIfInBounds_toArray, List.set_cons_zero, List.set_cons_succ]; rfl) (by simp only [List.cons_append, List.nil_append]; rfl) ?_
                  refine wpFacts_val (by rfl) (fun w1 hL hd K hK => ?_) ?_
                  · go_simp
                    exact hK _ (Lat.refl _)
                  refine wpFacts_norm (by simp only [Act.put, List.setIfInBounds_toArray, List.set_cons_zero, List.set_cons_succ]; rfl) (by simp only [List.cons_append, List.nil_append]; rfl) ?_
                  refine wpFacts_val (by rfl) (fun w1 hL hd K hK => ?_) ?_
                  · obtain ⟨d0, d1⟩ := HC.out w1 hL
                    go_simp
                    exact hK _ (Lat.refl _)
                  refine wpFacts_norm (by simp only [Act.put, List.setIfInBounds_toArray, List.set_cons_zero, List.set_cons_succ]; rfl) (by simp only [List.cons_append, List.nil_append]; rfl) ?_
                  refine wpFacts_val (by rfl) (fun w1 hL hd K hK => ?_) ?_
                  · go_simp
                    exact hK _ (Lat.refl _)
                  refine wpFacts_norm (by simp only [Act.put, List.setIfInBounds_toArray, List.set_cons_zero, List.set_cons_succ]; rfl) (by simp only [List.cons_append, List.nil_append]; rfl) ?_
                  refine wpFacts_val (by rfl) (fun w1 hL hd K hK => ?_) ?_
                  · go_simp
                    exact hK _ (Lat.refl _)
                  refine wpFacts_norm (by simp only [Act.put, List.setIfInBounds_toArray, List.set_cons_zero, List.set_cons_succ]; rfl) (by simp only [List.cons_append, List.nil_append]; rfl) ?_
                  refine wpFacts_val (by rfl) (fun w1 hL hd K hK => ?_) ?_
                  · go_simp
                    exact hK _ (Lat.refl _)
                  refine wpFacts_norm (by simp only [Act.put, List.setIfInBounds_toArray, List.set_cons_zero, List.set_cons_succ]; rfl) (by simp only [List.cons_append, List.nil_append]; rfl) ?_
                  refine wpFacts_skip11 (by rfl) ?_
                  refine wpFacts_norm (by simp only [Act.put, List.setIfInBounds_toArray, List.set_cons_zero, List.set_cons_succ]; rfl) (by simp only [List.cons_append, List.nil_append]; rfl) ?_
                  refine wpFacts_skip11 (by rfl) ?_
                  refine wpFacts_norm (by simp only [Act.put, List.setIfInBounds_toArray, List.set_cons_zero, List.set_cons_succ]; rfl) (by simp only [List.cons_append, List.nil_append]; rfl) ?_
                  refine wpFacts_skip11 (by rfl) ?_
                  refine wpFacts_norm (by simp only [Act.put, List.setIfInBounds_toArray, List.set_cons_zero, List.set_cons_succ]; rfl) (by simp only [List.cons_append, List.nil_append]; rfl) ?_
                  refine wpFacts_skip11 (by rfl) ?_
                  refine wpFacts_norm (by simp only [Act.put, List.setIfInBounds_toArray, List.set_cons_zero, List.set_cons_succ]; rfl) (by simp only [List.cons_append, List.nil_append]; rfl) ?_
                  refine wpFacts_skip11 (by rfl) ?_
                  refine wpFacts_norm (by simp only [Act.put, List.setIfInBounds_toArray, List.set_cons_zero, List.set_cons_succ]; rfl) (by simp only [List.cons_append, List.nil_append]; rfl) ?_
                  refine wpFacts_skip11 (by rfl) ?_
                  refine wpFacts_norm (by simp only [Act.put, List.setIfInBounds_toArray, List.set_cons_zero, List.set_cons_succ]; rfl) (by simp only [List.cons_append, List.nil_append]; rfl) ?_
                  refine wpFacts_skip11 (by rfl) ?_
                  refine wpFacts_norm (by simp only [Act.put, List.setIfInBounds_toArray, List.set_cons_zero, List.set_cons_succ]; rfl) (by simp only [List.cons_append, List.nil_append]; rfl) ?_
                  refine wpFacts_skip11 (by rfl) ?_
                  refine wpFacts_norm (by simp only [Act.put, List.setIfInBounds_toArray, List.set_cons_zero, List.set_cons_succ]; rfl) (by simp only [List.cons_append, List.nil_append]; rfl) ?_
                  refine wpFacts_skip11 (by rfl) ?_
                  refine wpFacts_norm (by simp only [Act.put, List.setIfInBounds_toArray, List.set_cons_zero, List.set_cons_succ]; rfl) (by simp only [List.cons_append, List.nil_append]; rfl) ?_
                  refine wpFacts_val (by rfl) (fun w1 hL hd K hK => ?_) ?_
                  · go_simp
                    exact hK _ (Lat.refl _)
                  refine wpFacts_norm (by simp only [Act.put, List.setIfInBounds_toArray, List.set_cons_zero, List.set_cons_succ]; rfl) (by simp only [List.cons_append, List.nil_append]; rfl) ?_
                  intro wz hLz haz
                  clear haz
                  have MZ : Hid (MkAt w.heap.size wz (.slice (some ⟨ib, 0, none⟩) g.rules.length ic) Bs (Dp.marks g.rules (wo.take (m + 1)))) := by
                    show MkAt _ _ _ _ _
                    rw [TK.out, Dp.marks_out (by rintro ⟨_, q, _⟩; simp only at q; omega)]
                    exact hM.out.later (hb2.out.trans (Below.mono hLz.of_drew hb2.out.size))
                  have BZ : Hid (Below w.heap.size w wz) := hB.out.trans ((hb2.out.trans (Below.mono hLz.of_drew hb2.out.size)).mono hB.out.size)
                  clear hLz hM hB HC hb2 TK
                  go_wp2_with fail
                  go_roundw
                  case rel => exact ⟨m + 1, by omega, by go_num, MZ, BZ⟩
                  case measure => simp [intOf]; omega
              · have hlB : Bs.length = g.rules.length := by rw [hM.out.len, Dp.marks_len]
                have hiB : i < Bs.length := by omega
                have hmk : (Dp.marks g.rules (wo.take m)).getD i [] = Dp.mrow g.rules (wo.take m) i := Dp.marks_getD _ hil
                have hML : (Dp.marks g.rules (wo.take m)).length = g.rules.length := Dp.marks_len _ _
                obtain ⟨ib2, ic2, e, hibl, hibg, hibB, hrow⟩ := MkAt.read hM.out (by rw [hML]; omega)
                simp only [Value.slice.injEq, Option.some.injEq, Addr.mk.injEq] at e
                obtain ⟨⟨rfl, _⟩, hz9, rfl⟩ := e
                clear hz9
                have hr0 := hrow i hiB
                rw [hmk] at hr0
                have hrl : (Dp.mrow g.rules (wo.take m) i).length = (g.rules.getD i (0, [])).2.length := Dp.mrow_len _ _ _
                have hr8 : (g.rules.getD i (0, [])).2.length ≤ 8 := by
                  have e : g.rules.getD i (0, []) = g.rules[i] := by simp [List.getD_eq_getElem?_getD, hil]
                  rw [e]; exact H8.out _ (List.getElem_mem hil)
                simp only [rowV, hrl] at hr0
                have HR : Hid (∀ w1 : World, Lat W2.drew w1 → w1.cell? ⟨ib, i, none⟩ = some (.slice (some ⟨Bs[i], 0, none⟩) (g.rules.getD i (0, [])).2.length (g.rules.getD i (0, [])).2.length)) := fun w1 hL => cell_later hL.of_drew (cell_later hb2.out hr0)
                have hBi : Bs[i] ∈ Bs := List.getElem_mem hiB
                have SET : Hid (∀ (V : World) (j : Nat), Below wr.heap.size wr V → j < (g.rules.getD i (0, [])).2.length → MkAt w.heap.size (V.setCell ⟨Bs[i], j, none⟩ (.bool true)) (.slice (some ⟨ib, 0, none⟩) g.rules.length ic) Bs (Dp.marks g.rules (wo.take m ++ [((i : Int), (j : Int))])) ∧ (∃ y, V.cell? ⟨Bs[i], j, none⟩ = some (.bool y)) ∧ V.frozen? ⟨Bs[i], j, none⟩ = false ∧ Bs[i] < V.heap.size ∧ w.heap.size ≤ Bs[i]) := fun V j hV hj => by
                  have hMV := hM.out.later hV
                  have hjm : j < ((Dp.marks g.rules (wo.take m)).getD i []).length := by rw [hmk, hrl]; exact hj
                  obtain ⟨c1, f1⟩ := hMV.cell i j hiB hjm
                  refine ⟨?_, ⟨_, c1⟩, f1, hMV.lt _ hBi, hMV.ge _ hBi⟩
                  rw [Dp.marks_in, ← hmk]
                  exact hMV.set i j hiB
                clear hr0 hrow hmk
                generalize hrne : (g.rules.getD i (0, [])).2.length = rn at *
                generalize hBe : Bs[i] = Bi at *
                have HRN : Hid ((g.rules.getD i (0, [])).2.length = rn) := hrne
                clear hrne hBe hrl hlB hML hi
                by_cases ht1 : (rn : Int) ≤ s2
                · refine wp_region_lat [.val (.pointer (some ⟨R, 0, none⟩)), .val (.int .i64 (i : Int)), .val (.bool false), .val (.bool false), .val (.pointer (some ⟨R, 0, none⟩)), .val (.int .i64 (i : Int)), .val (.slice (some ⟨ib, 0, none⟩) g.rules.length ic), .val (.int .i64 (g.rules.length : Int)), .val (.bool false), .val (.bool false), .val (.bool false), .val (.pointer (some ⟨R, 1, none⟩)), .val (.int .i64 s2), .val (.bool false), .val (.bool false), .val (.bool false), .val (.pointer (some ⟨R, 1, none⟩)), .val (.int .i64 s2), .val (.slice (some ⟨ib, 0, none⟩) g.rules.length ic), .val (.pointer (some ⟨R, 0, none⟩)), .val (.int .i64 (i : Int)), .val (.pointer (some ⟨ib, i, none⟩)), .val (.slice (some ⟨Bi, 0, none⟩) rn rn), .val (.int .i64 (rn : Int)), .val (.bool true), .val (.bool true)] [] (by kernel_rfl) (by kernel_rfl) rfl ?keptd ?walkd
                  case keptd => exact trivial
                  case walkd =>
                    refine wpFacts_val (by rfl) (fun w1 hL hd K hK => ?_) ?_
                    · go_simp
                      exact hK _ (Lat.refl _)
                    refine wpFacts_norm (by simp only [Act.put, List.setIfInBounds_toArray, List.set_cons_zero, List.set_cons_succ]; rfl) (by simp only [List.nil_append]; rfl) ?_
                    refine wpFacts_val (by rfl) (fun w1 hL hd K hK => ?_) ?_
                    · obtain ⟨d0, d1⟩ := HC.out w1 hL
                      go_simp
                      exact hK _ (Lat.refl _)
                    refine wpFacts_norm (by simp only [Act.put, List.setIfInBounds_toArray, List.set_cons_zero, List.set_cons_succ]; rfl) (by simp only [List.cons_append, List.nil_append]; rfl) ?_
                    refine wpFacts_val (by rfl) (fun w1 hL hd K hK => ?_) ?_
                    · go_simp
                      exact hK _ (Lat.refl _)
                    refine wpFacts_norm (by simp only [Act.put, List.setIfInBounds_toArray, List.set_cons_zero, List.set_cons_succ]; rfl) (by simp only [List.cons_append, List.nil_append]; rfl) ?_
                    refine wpFacts_val (by rfl) (fun w1 hL hd K hK => ?_) ?_
                    · go_simp
                      exact hK _ (Lat.refl _)
                    refine wpFacts_norm (by simp only [Act.put, List.setIfInBounds_toArray, List.set_cons_zero, List.set_cons_succ]; rfl) (by simp only [List.cons_append, List.nil_append]; rfl) ?_
                    refine wpFacts_val (by rfl) (fun w1 hL hd K hK => ?_) ?_
                    · go_simp
                      exact hK _ (Lat.refl _)
                    refine wpFacts_norm (by simp only [Act.put, List.setIfInBounds_toArray, List.set_cons_zero, List.set_cons_succ]; rfl) (by simp only [List.cons_append, List.nil_append]; rfl) ?_
                    refine wpFacts_val (by rfl) (fun w1 hL hd K hK => ?_) ?_
                    · obtain ⟨d0, d1⟩ := HC.out w1 hL
                      go_simp
                      exact hK _ (Lat.refl _)
                    refine wpFacts_norm (by simp only [Act.put, List.setIfInBounds_toArray, List.set_cons_zero, List.set_cons_succ]; rfl) (by simp only [List.cons_append, List.nil_append]; rfl) ?_
                    refine wpFacts_val (by rfl) (fun w1 hL hd K hK => ?_) ?_
                    · go_simp
                      exact hK _ (Lat.refl _)
                    refine wpFacts_norm (by simp only [Act.put, List.setIfInBounds_toArray, List.set_cons_zero, List.set_cons_succ]; rfl) (by simp only [List.cons_append, List.nil_append]; rfl) ?_
                    refine wpFacts_val (by rfl) (fun w1 hL hd K hK => ?_) ?_
                    · go_simp
                      exact hK _ (Lat.refl _)
                    refine wpFacts_norm (by simp only [Act.put, List.setIfInBounds_toArray, List.set_cons_zero, List.set_cons_succ]; rfl) (by simp only [List.cons_append, List.nil_append]; rfl) ?_
                    refine wpFacts_val (by rfl) (fun w1 hL hd K hK => ?_) ?_
                    · go_simp
                      exact hK _ (Lat.refl _)
                    refine wpFacts_norm (by simp only [Act.put, List.setIfInBounds_toArray, List.set_cons_zero, List.set_cons_succ]; rfl) (by simp only [List.cons_append, List.nil_append]; rfl) ?_
                    refine wpFacts_val (by rfl) (fun w1 hL hd K hK => ?_) ?_
                    · go_simp
                      exact hK _ (Lat.refl _)
                    refine wpFacts_norm (by simp only [Act.put, List.setIfInBounds_toArray, List.set_cons_zero, List.set_cons_succ]; rfl) (by simp only [List.cons_append, List.nil_append]; rfl) ?_
                    refine wpFacts_val (by rfl) (fun w1 hL hd K hK => ?_) ?_
                    · go_simp
                      exact hK _ (Lat.refl _)
                    refine wpFacts_norm (by simp only [Act.put, List.setIfInBounds_toArray, List.set_cons_zero, List.set_cons_succ]; rfl) (by simp only [List.cons_append, List.nil_append]; rfl) ?_
                    refine wpFacts_val (by rfl) (fun w1 hL hd K hK => ?_) ?_
                    · go_simp
                      exact hK _ (Lat.refl _)
                    refine wpFacts_norm (by simp only [Act.put, List.setIfInBounds_toArray, List.set_cons_zero, List.set_cons_succ]; rfl) (by simp only [List.cons_append, List.nil_append]; rfl) ?_
                    refine wpFacts_val (by rfl) (fun w1 hL hd K hK => ?_) ?_
                    · obtain ⟨d0, d1⟩ := HC.out w1 hL
                      go_simp
                      exact hK _ (Lat.refl _)
                    refine wpFacts_norm (by simp only [Act.put, List.setIfInBounds_toArray, List.set_cons_zero, List.set_cons_succ]; rfl) (by simp only [List.cons_append, List.nil_append]; rfl) ?_
                    refine wpFacts_val (by rfl) (fun w1 hL hd K hK => ?_) ?_
                    · go_simp
                      exact hK _ (Lat.refl _)
                    refine wpFacts_norm (by simp only [Act.put, List.setIfInBounds_toArray, List.set_cons_zero, List.set_cons_succ]; rfl) (by simp only [List.cons_append, List.nil_append]; rfl) ?_
                    refine wpFacts_val (by rfl) (fun w1 hL hd K hK => ?_) ?_
                    · go_simp
                      exact hK _ (Lat.refl _)
                    refine wpFacts_norm (by simp only [Act.put, List.setIfInBounds_toArray, List.set_cons_zero, List.set_cons_succ]; rfl) (by simp only [List.cons_append, List.nil_append]; rfl) ?_
                    refine wpFacts_val (by rfl) (fun w1 hL hd K hK => ?_) ?_
                    · go_simp
                      exact hK _ (Lat.refl _)
                    refine wpFacts_norm (by simp only [Act.put, List.setIfInBounds_toArray, List.set_cons_zero, List.set_cons_succ]; rfl) (by simp only [List.cons_append, List.nil_append]; rfl) ?_
                    refine wpFacts_val (by rfl) (fun w1 hL hd K hK => ?_) ?_
                    · go_simp
                      exact hK _ (Lat.refl _)
                    refine wpFacts_norm (by simp only [Act.put, List.setIfInBounds_toArray, List.set_cons_zero, List.set_cons_succ]; rfl) (by simp only [List.cons_append, List.nil_append]; rfl) ?_
                    refine wpFacts_val (by rfl) (fun w1 hL hd K hK => ?_) ?_
                    · obtain ⟨d0, d1⟩ := HC.out w1 hL
                      go_simp
                      exact hK _ (Lat.refl _)
                    refine wpFacts_norm (by simp only [Act.put, List.setIfInBounds_toArray, List.set_cons_zero, List.set_cons_succ]; rfl) (by simp only [List.cons_append, List.nil_append]; rfl) ?_
                    refine wpFacts_val (by rfl) (fun w1 hL hd K hK => ?_) ?_
                    · go_simp
                      exact hK _ (Lat.refl _)
                    refine wpFacts_norm (by simp only [Act.put, List.setIfInBounds_toArray, List.set_cons_zero, List.set_cons_succ]; rfl) (by simp only [List.cons_append, List.nil_append]; rfl) ?_
                    refine wpFacts_val (by rfl) (fun w1 hL hd K hK => ?_) ?_
                    · go_simp
                      exact hK _ (Lat.refl _)
                    refine wpFacts_norm (by simp only [Act.put, List.setIfInBounds_toArray, List.set_cons_zero, List.set_cons_succ]; rfl) (by simp only [List.cons_append, List.nil_append]; rfl) ?_
                    refine wpFacts_val (by rfl) (fun w1 hL hd K hK => ?_) ?_
                    · obtain ⟨d0, d1⟩ := HC.out w1 hL
                      go_simp
                      exact hK _ (Lat.refl _)
                    refine wpFacts_norm (by simp only [Act.put, List.setIfInBounds_toArray, List.set_cons_zero, List.set_cons_succ]; rfl) (by simp only [List.cons_append, List.nil_append]; rfl) ?_
                    refine wpFacts_val (by rfl) (fun w1 hL hd K hK => ?_) ?_
                    · go_simp
                      exact hK _ (Lat.refl _)
                    refine wpFacts_norm (by simp only [Act.put, List.setIfInBounds_toArray, List.set_cons_zero, List.set_cons_succ]; rfl) (by simp only [List.cons_append, List.nil_append]; rfl) ?_
                    refine wpFacts_val (by rfl) (fun w1 hL hd K hK => ?_) ?_
                    · have dr := HR.out w1 hL
                      go_simp
                      exact hK _ (Lat.refl _)
                    refine wpFacts_norm (by simp only [Act.put, List.setIfInBounds_toArray, List.set_cons_zero, List.set_cons_succ]; rfl) (by simp only [List.cons_append, List.nil_append]; rfl) ?_
                    refine wpFacts_val (by rfl) (fun w1 hL hd K hK => ?_) ?_
                    · go_simp
                      exact hK _ (Lat.refl _)
                    refine wpFacts_norm (by simp only [Act.put, List.setIfInBounds_toArray, List.set_cons_zero, List.set_cons_succ]; rfl) (by simp only [List.cons_append, List.nil_append]; rfl) ?_
                    refine wpFacts_val (by rfl) (fun w1 hL hd K hK => ?_) ?_
                    · go_simp
                      exact hK _ (Lat.refl _)
                    refine wpFacts_norm (by simp only [Act.put, List.setIfInBounds_toArray, List.set_cons_zero, List.set_cons_succ]; rfl) (by simp only [List.cons_append, List.nil_append]; rfl) ?_
                    refine wpFacts_val (by rfl) (fun w1 hL hd K hK => ?_) ?_
                    · go_simp
                      exact hK _ (Lat.refl _)
                    refine wpFacts_norm (by simp only [Act.put, List.setIfInBounds_toArray, List.set_cons_zero, List.set_cons_succ]; rfl) (by simp only [List.cons_append, List.nil_append]; rfl) ?_
                    intro wz hLz haz
                    clear haz
                    have MZ : Hid (MkAt w.heap.size wz (.slice (some ⟨ib, 0, none⟩) g.rules.length ic) Bs (Dp.marks g.rules (wo.take (m + 1)))) := by
                      show MkAt _ _ _ _ _
                      rw [TK.out, Dp.marks_out (by rintro ⟨_, _, q⟩; simp only [Int.toNat_natCast] at q; rw [HRN.out] at q; omega)]
                      exact hM.out.later (hb2.out.trans (Below.mono hLz.of_drew hb2.out.size))
                    have BZ : Hid (Below w.heap.size w wz) := hB.out.trans ((hb2.out.trans (Below.mono hLz.of_drew hb2.out.size)).mono hB.out.size)
                    clear SET HR hLz hM hB HC hb2 TK
                    go_wp2_with fail
                    go_roundw
                    case rel => exact ⟨m + 1, by omega, by go_num, MZ, BZ⟩
                    case measure => simp [intOf]; omega
                · obtain ⟨j, rfl⟩ : ∃ j : Nat, s2 = j := ⟨s2.toNat, by omega⟩
                  have hjn : j < rn := by omega
                  have hji : (j : Int) < (rn : Int) := by omega
                  refine wp_region_lat [.val (.pointer (some ⟨R, 0, none⟩)), .val (.int .i64 (i : Int)), .val (.bool false), .val (.bool false), .val (.pointer (some ⟨R, 0, none⟩)), .val (.int .i64 (i : Int)), .val (.slice (some ⟨ib, 0, none⟩) g.rules.length ic), .val (.int .i64 (g.rules.length : Int)), .val (.bool false), .val (.bool false), .val (.bool false), .val (.pointer (some ⟨R, 1, none⟩)), .val (.int .i64 (j : Int)), .val (.bool false), .val (.bool false), .val (.bool false), .val (.pointer (some ⟨R, 1, none⟩)), .val (.int .i64 (j : Int)), .val (.slice (some ⟨ib, 0, none⟩) g.rules.length ic), .val (.pointer (some ⟨R, 0, none⟩)), .val (.int .i64 (i : Int)), .val (.pointer (some ⟨ib, i, none⟩)), .val (.slice (some ⟨Bi, 0, none⟩) rn rn), .val (.int .i64 (rn : Int)), .val (.bool false), .val (.bool false)] [] (by kernel_rfl) (by kernel_rfl) rfl ?kepte ?walke
                  case kepte => exact trivial
                  case walke =>
                    refine wpFacts_val (by rfl) (fun w1 hL hd K hK => ?_) ?_
                    · go_simp
                      exact hK _ (Lat.refl _)
                    refine wpFacts_norm (by simp only [Act.put, List.setIfInBounds_toArray, List.set_cons_zero, List.set_cons_succ]; rfl) (by simp only [List.nil_append]; rfl) ?_
                    refine wpFacts_val (by rfl) (fun w1 hL hd K hK => ?_) ?_
                    · obtain ⟨d0, d1⟩ := HC.out w1 hL
                      go_simp
                      exact hK _ (Lat.refl _)
                    refine wpFacts_norm (by simp only [Act.put, List.setIfInBounds_toArray, List.set_cons_zero, List.set_cons_succ]; rfl) (by simp only [List.cons_append, List.nil_append]; rfl) ?_
                    refine wpFacts_val (by rfl) (fun w1 hL hd K hK => ?_) ?_
                    · go_simp
                      exact hK _ (Lat.refl _)
                    refine wpFacts_norm (by simp only [Act.put, List.setIfInBounds_toArray, List.set_cons_zero, List.set_cons_succ]; rfl) (by simp only [List.cons_append, List.nil_append]; rfl) ?_
                    refine wpFacts_val (by rfl) (fun w1 hL hd K hK => ?_) ?_
                    · go_simp
                      exact hK _ (Lat.refl _)
                    refine wpFacts_norm (by simp only [Act.put, List.setIfInBounds_toArray, List.set_cons_zero, List.set_cons_succ]; rfl) (by simp only [List.cons_append, List.nil_append]; rfl) ?_
                    refine wpFacts_val (by rfl) (fun w1 hL hd K hK => ?_) ?_
                    · go_simp
                      exact hK _ (Lat.refl _)
                    refine wpFacts_norm (by simp only [Act.put, List.setIfInBounds_toArray, List.set_cons_zero, List.set_cons_succ]; rfl) (by simp only [List.cons_append, List.nil_append]; rfl) ?_
                    refine wpFacts_val (by rfl) (fun w1 hL hd K hK => ?_) ?_
                    · obtain ⟨d0, d1⟩ := HC.out w1 hL
                      go_simp
                      exact hK _ (Lat.refl _)
                    refine wpFacts_norm (by simp only [Act.put, List.setIfInBounds_toArray, List.set_cons_zero, List.set_cons_succ]; rfl) (by simp only [List.cons_append, List.nil_append]; rfl) ?_
                    refine wpFacts_val (by rfl) (fun w1 hL hd K hK => ?_) ?_
                    · go_simp
                      exact hK _ (Lat.refl _)
                    refine wpFacts_norm (by simp only [Act.put, List.setIfInBounds_toArray, List.set_cons_zero, List.set_cons_succ]; rfl) (by simp only [List.cons_append, List.nil_append]; rfl) ?_
                    refine wpFacts_val (by rfl) (fun w1 hL hd K hK => ?_) ?_
                    · go_simp
                      exact hK _ (Lat.refl _)
                    refine wpFacts_norm (by simp only [Act.put, List.setIfInBounds_toArray, List.set_cons_zero, List.set_cons_succ]; rfl) (by simp only [List.cons_append, List.nil_append]; rfl) ?_
                    refine wpFacts_val (by rfl) (fun w1 hL hd K hK => ?_) ?_
                    · go_simp
                      exact hK _ (Lat.refl _)
                    refine wpFacts_norm (by simp only [Act.put, List.setIfInBounds_toArray, List.set_cons_zero, List.set_cons_succ]; rfl) (by simp only [List.cons_append, List.nil_append]; rfl) ?_
                    refine wpFacts_val (by rfl) (fun w1 hL hd K hK => ?_) ?_
                    · go_simp
                      exact hK _ (Lat.refl _)
                    refine wpFacts_norm (by simp only [Act.put, List.setIfInBounds_toArray, List.set_cons_zero, List.set_cons_succ]; rfl) (by simp only [List.cons_append, List.nil_append]; rfl) ?_
                    refine wpFacts_val (by rfl) (fun w1 hL hd K hK => ?_) ?_
                    · go_simp
                      exact hK _ (Lat.refl _)
                    refine wpFacts_norm (by simp only [Act.put, List.setIfInBounds_toArray, List.set_cons_zero, List.set_cons_succ]; rfl) (by simp only [List.cons_append, List.nil_append]; rfl) ?_
                    refine wpFacts_val (by rfl) (fun w1 hL hd K hK => ?_) ?_
                    · go_simp
                      exact hK _ (Lat.refl _)
                    refine wpFacts_norm (by simp only [Act.put, List.setIfInBounds_toArray, List.set_cons_zero, List.set_cons_succ]; rfl) (by simp only [List.cons_append, List.nil_append]; rfl) ?_
                    refine wpFacts_val (by rfl) (fun w1 hL hd K hK => ?_) ?_
                    · obtain ⟨d0, d1⟩ := HC.out w1 hL
                      go_simp
                      exact hK _ (Lat.refl _)
                    refine wpFacts_norm (by simp only [Act.put, List.setIfInBounds_toArray, List.set_cons_zero, List.set_cons_succ]; rfl) (by simp only [List.cons_append, List.nil_append]; rfl) ?_
                    refine wpFacts_val (by rfl) (fun w1 hL hd K hK => ?_) ?_
                    · go_simp
                      exact hK _ (Lat.refl _)
                    refine wpFacts_norm (by simp only [Act.put, List.setIfInBounds_toArray, List.set_cons_zero, List.set_cons_succ]; rfl) (by simp only [List.cons_append, List.nil_append]; rfl) ?_
                    refine wpFacts_val (by rfl) (fun w1 hL hd K hK => ?_) ?_
                    · go_simp
                      exact hK _ (Lat.refl _)
                    refine wpFacts_norm (by simp only [Act.put, List.setIfInBounds_toArray, List.set_cons_zero, List.set_cons_succ]; rfl) (by simp only [List.cons_append, List.nil_append]; rfl) ?_
                    refine wpFacts_val (by rfl) (fun w1 hL hd K hK => ?_) ?_
                    · go_simp
                      exact hK _ (Lat.refl _)
                    refine wpFacts_norm (by simp only [Act.put, List.setIfInBounds_toArray, List.set_cons_zero, List.set_cons_succ]; rfl) (by simp only [List.cons_append, List.nil_append]; rfl) ?_
                    refine wpFacts_val (by rfl) (fun w1 hL hd K hK => ?_) ?_
                    · go_simp
                      exact hK _ (Lat.refl _)
                    refine wpFacts_norm (by simp only [Act.put, List.setIfInBounds_toArray, List.set_cons_zero, List.set_cons_succ]; rfl) (by simp only [List.cons_append, List.nil_append]; rfl) ?_
                    refine wpFacts_val (by rfl) (fun w1 hL hd K hK => ?_) ?_
                    · obtain ⟨d0, d1⟩ := HC.out w1 hL
                      go_simp
                      exact hK _ (Lat.refl _)
                    refine wpFacts_norm (by simp only [Act.put, List.setIfInBounds_toArray, List.set_cons_zero, List.set_cons_succ]; rfl) (by simp only [List.cons_append, List.nil_append]; rfl) ?_
                    refine wpFacts_val (by rfl) (fun w1 hL hd K hK => ?_) ?_
                    · go_simp
                      exact hK _ (Lat.refl _)
                    refine wpFacts_norm (by simp only [Act.put, List.setIfInBounds_toArray, List.set_cons_zero, List.set_cons_succ]; rfl) (by simp only [List.cons_append, List.nil_append]; rfl) ?_
                    refine wpFacts_val (by rfl) (fun w1 hL hd K hK => ?_) ?_
                    · go_simp
                      exact hK _ (Lat.refl _)
                    refine wpFacts_norm (by simp only [Act.put, List.setIfInBounds_toArray, List.set_cons_zero, List.set_cons_succ]; rfl) (by simp only [List.cons_append, List.nil_append]; rfl) ?_
                    refine wpFacts_val (by rfl) (fun w1 hL hd K hK => ?_) ?_
                    · obtain ⟨d0, d1⟩ := HC.out w1 hL
                      go_simp
                      exact hK _ (Lat.refl _)
                    refine wpFacts_norm (by simp only [Act.put, List.setIfInBounds_toArray, List.set_cons_zero, List.set_cons_succ]; rfl) (by simp only [List.cons_append, List.nil_append]; rfl) ?_
                    refine wpFacts_val (by rfl) (fun w1 hL hd K hK => ?_) ?_
                    · go_simp
                      exact hK _ (Lat.refl _)
                    refine wpFacts_norm (by simp only [Act.put, List.setIfInBounds_toArray, List.set_cons_zero, List.set_cons_succ]; rfl) (by simp only [List.cons_append, List.nil_append]; rfl) ?_
                    refine wpFacts_val (by rfl) (fun w1 hL hd K hK => ?_) ?_
                    · have dr := HR.out w1 hL
                      go_simp
                      exact hK _ (Lat.refl _)
                    refine wpFacts_norm (by simp only [Act.put, List.setIfInBounds_toArray, List.set_cons_zero, List.set_cons_succ]; rfl) (by simp only [List.cons_append, List.nil_append]; rfl) ?_
                    refine wpFacts_val (by rfl) (fun w1 hL hd K hK => ?_) ?_
                    · go_simp
                      exact hK _ (Lat.refl _)
                    refine wpFacts_norm (by simp only [Act.put, List.setIfInBounds_toArray, List.set_cons_zero, List.set_cons_succ]; rfl) (by simp only [List.cons_append, List.nil_append]; rfl) ?_
                    refine wpFacts_val (by rfl) (fun w1 hL hd K hK => ?_) ?_
                    · go_simp
                      exact hK _ (Lat.refl _)
                    refine wpFacts_norm (by simp only [Act.put, List.setIfInBounds_toArray, List.set_cons_zero, List.set_cons_succ]; rfl) (by simp only [List.cons_append, List.nil_append]; rfl) ?_
                    refine wpFacts_val (by rfl) (fun w1 hL hd K hK => ?_) ?_
                    · go_simp
                      exact hK _ (Lat.refl _)
                    refine wpFacts_norm (by simp only [Act.put, List.setIfInBounds_toArray, List.set_cons_zero, List.set_cons_succ]; rfl) (by simp only [List.cons_append, List.nil_append]; rfl) ?_
                    intro v1 hL1 ha1
                    clear ha1
                    have HB3 : Hid (Below wr.heap.size wr v1) := hb2.out.trans (Below.mono hL1.of_drew hb2.out.size)
                    have HC9 : Hid _ := HC
                    have HR9 : Hid _ := HR
                    clear HC HR
                    have HC : Hid (∀ w1 : World, Lat v1.drew w1 → w1.cell? ⟨R, 0, none⟩ = some (.int .i64 (i : Int)) ∧ w1.cell? ⟨R, 1, none⟩ = some (.int .i64 (j : Int))) := fun w1 hL => HC9.out w1 (Lat.trans hL1 hL.of_drew)
                    have HR : Hid (∀ w1 : World, Lat v1.drew w1 → w1.cell? ⟨ib, i, none⟩ = some (.slice (some ⟨Bi, 0, none⟩) rn rn)) := fun w1 hL => HR9.out w1 (Lat.trans hL1 hL.of_drew)
                    clear HC9 HR9 hL1 hb2
                    go_upto_region 11 with fail
                    refine wp_region_lat [.val (.slice (some ⟨ib, 0, none⟩) g.rules.length ic), .val (.pointer (some ⟨R, 0, none⟩)), .val (.int .i64 (i : Int)), .val (.pointer (some ⟨ib, i, none⟩)), .val (.slice (some ⟨Bi, 0, none⟩) rn rn), .val (.pointer (some ⟨R, 1, none⟩)), .val (.int .i64 (j : Int)), .val (.pointer (some ⟨Bi, j, none⟩))] [_] (by kernel_rfl) (by kernel_rfl) rfl ?kept11 ?walk11
                    case kept11 => exact trivial
                    case walk11 =>
                      refine wpFacts_val (by rfl) (fun w1 hL hd K hK => ?_) ?_
                      · go_simp
                        exact hK _ (Lat.refl _)
                      refine wpFacts_norm (by simp only [Act.put, List.setIfInBounds_toArray, List.set_cons_zero, List.set_cons_succ]; rfl) (by simp only [List.nil_append]; rfl) ?_
                      refine wpFacts_val (by rfl) (fun w1 hL hd K hK => ?_) ?_
                      · go_simp
                        exact hK _ (Lat.refl _)
                      refine wpFacts_norm (by simp only [Act.put, List.setIfInBounds_toArray, List.set_cons_zero, List.set_cons_succ]; rfl) (by simp only [List.cons_append, List.nil_append]; rfl) ?_
                      refine wpFacts_val (by rfl) (fun w1 hL hd K hK => ?_) ?_
                      · obtain ⟨d0, d1⟩ := HC.out w1 hL
                        go_simp
                        exact hK _ (Lat.refl _)
                      refine wpFacts_norm (by simp only [Act.put, List.setIfInBounds_toArray, List.set_cons_zero, List.set_cons_succ]; rfl) (by simp only [List.cons_append, List.nil_append]; rfl) ?_
                      refine wpFacts_val (by rfl) (fun w1 hL hd K hK => ?_) ?_
                      · go_simp
                        exact hK _ (Lat.refl _)
                      refine wpFacts_norm (by simp only [Act.put, List.setIfInBounds_toArray, List.set_cons_zero, List.set_cons_succ]; rfl) (by simp only [List.cons_append, List.nil_append]; rfl) ?_
                      refine wpFacts_val (by rfl) (fun w1 hL hd K hK => ?_) ?_
                      · have dr := HR.out w1 hL
                        go_simp
                        exact hK _ (Lat.refl _)
                      refine wpFacts_norm (by simp only [Act.put, List.setIfInBounds_toArray, List.set_cons_zero, List.set_cons_succ]; rfl) (by simp only [List.cons_append, List.nil_append]; rfl) ?_
                      refine wpFacts_val (by rfl) (fun w1 hL hd K hK => ?_) ?_
                      · go_simp
                        exact hK _ (Lat.refl _)
                      refine wpFacts_norm (by simp only [Act.put, List.setIfInBounds_toArray, List.set_cons_zero, List.set_cons_succ]; rfl) (by simp only [List.cons_append, List.nil_append]; rfl) ?_
                      refine wpFacts_val (by rfl) (fun w1 hL hd K hK => ?_) ?_
                      · obtain ⟨d0, d1⟩ := HC.out w1 hL
                        go_simp
                        exact hK _ (Lat.refl _)
                      refine wpFacts_norm (by simp only [Act.put, List.setIfInBounds_toArray, List.set_cons_zero, List.set_cons_succ]; rfl) (by simp only [List.cons_append, List.nil_append]; rfl) ?_
                      refine wpFacts_val (by rfl) (fun w1 hL hd K hK => ?_) ?_
                      · go_simp
                        exact hK _ (Lat.refl _)
                      refine wpFacts_norm (by simp only [Act.put, List.setIfInBounds_toArray, List.set_cons_zero, List.set_cons_succ]; rfl) (by simp only [List.cons_append, List.nil_append]; rfl) ?_
                      intro v2 hL2 ha2
                      clear ha2
                      have HB4 : Hid (Below wr.heap.size wr v2) := HB3.out.trans (Below.mono hL2.of_drew HB3.out.size)
                      obtain ⟨MV, ⟨y, c1⟩, f1, hBl, hBg⟩ := SET.out v2 j HB4.out hjn
                      have MZ : Hid (MkAt w.heap.size (v2.setCell ⟨Bi, j, none⟩ (.bool true)) (.slice (some ⟨ib, 0, none⟩) g.rules.length ic) Bs (Dp.marks g.rules (wo.take (m + 1)))) := by
                        show MkAt _ _ _ _ _
                        rw [TK.out]; exact MV
                      have BZ : Hid (Below w.heap.size w (v2.setCell ⟨Bi, j, none⟩ (.bool true))) := (hB.out.trans (HB4.out.mono hB.out.size)).setCell hBg _
                      clear hL2 hM hB HC HR SET MV TK HB3 HB4
                      go_wp2_with fail
                      go_roundw
                      case rel => exact ⟨m + 1, by omega, by go_num, MZ, BZ⟩
                      case measure => simp [intOf]; omega
        · obtain rfl : m = wo.length := by omega
          have hmi : ¬ (wo.length : Int) < (wo.length : Int) := by omega
          have MF : Hid (MkAt w.heap.size wr (.slice (some ⟨ib, 0, none⟩) g.rules.length ic) Bs (Dp.marks g.rules wo)) := by
            have := hM.out
            rw [List.take_length] at this
            exact this
          clear hM
          go_wp2_with fail
          go_ret
          exact ⟨_, _, rfl, ⟨Bs, MF⟩, hB⟩
end Go.Proofs.Ytdocbgfpnaiijaa
