/-
  The document's own answer for layer 9: Sets.
-/
import Derived.Test.YtdocbgfpnaiijaaGreatFoSets
import Derived.Test.YtdocbgfpnaiijaaGreatFoRound
import Derived.Test.YtdocbgfpnaiijaaGreatFiDoc
import Derived.Test.YtdocbgfpnaiijaaGreatNlAll
namespace Go.Proofs.YtdocbgfpnaiijaaGreat
open Go.RowKit Go.Conc

theorem Fo.start_has (N n : Nat) (h : 0 < N) (s t : Int) : Fi.has (Fi.put (List.replicate N (List.replicate (n + 1) false)) ((0 : Nat) : Int) (n : Int)) s t = true ↔ s = 0 ∧ t = n := by
  have hs := Fi.none_shape N (n + 1)
  constructor
  · intro q
    rcases Fi.put_back hs (by omega) (by omega) (by omega) q with q | q
    · exact ⟨q.1, q.2⟩
    · rw [Fi.none_has] at q; cases q
  · rintro ⟨rfl, rfl⟩
    exact Fi.has_put hs (by omega) (by omega) (by omega) (by omega)

theorem Fo.ofG_mem {g : Gr.Gm} {l : List Int} (ho : Fi.okG g l = true) {t : Int} : t ∈ Fi.ofG g l ↔ ∃ x ∈ Fi.heads (Nl.of g) l, Fi.Beg g.rules (Nl.of g) g.terms.length x t := by
  have hs : ∀ s ∈ l, 0 ≤ s ∧ s < ((g.terms.length + g.names.length : Nat) : Int) := Fi.syms_iff.1 (by unfold Fi.okG at ho; simp only [Bool.and_eq_true] at ho; exact ho.2)
  unfold Fi.ofG
  rw [if_pos ho, Fi.mem_rise, Fi.ofL_at (Fi.tab_shape g)]
  constructor
  · rintro ⟨x, hx, q⟩
    exact ⟨x, hx, (Fi.rows_has (hs x (Fi.heads_mem hx)).1 (hs x (Fi.heads_mem hx)).2).1 q⟩
  · rintro ⟨x, hx, q⟩
    exact ⟨x, hx, (Fi.rows_has (hs x (Fi.heads_mem hx)).1 (hs x (Fi.heads_mem hx)).2).2 q⟩
theorem Fo.ofG_short (g : Gr.Gm) (l : List Int) : (Fi.ofG g l).length ≤ g.terms.length := by
  unfold Fi.ofG
  split
  · exact Nat.le_trans (Fi.riseTo_len _ _) (by rw [Fi.ofL_len]; exact Nat.le_refl _)
  · exact Nat.zero_le _

theorem field_got8 (x y : Value) (w : World) : (Instr.field 61 (.agg #[x, y]) 0).run Tryz.prog w = .ok x w := by kernel_rfl

set_option maxRecDepth 100000 in
set_option maxHeartbeats 25600000 in
theorem refSets9_is (g : Gr.Gm) (A : GA) (n : Nat) (w : World) (hn : g.terms.length + g.names.length = n) (hg : Gr.good g = true) (hm : ∀ x ∈ g.rules, x.2.length ≤ maxLen) (h : GmAt w.heap.size w g A) :
    Calls Tryz.prog 11 #[.agg (gmCells g A)] w fun e w' => ∃ xo xc, e = .returned (.slice xo (Fo.setsG g).length xc) ∧ Hid (LisAt w'.heap.size w' xo (Fo.setsG g)) ∧ Hid (Below w.heap.size w w') := by
  obtain ⟨ta, tc, na, nc, ra, rac⟩ := A
  have HG : Hid (GmAt w.heap.size w g ⟨ta, tc, na, nc, ra, rac⟩) := h
  have HM : Hid _ := hm
  have HF0 := Nl.fit_of hg
  rw [hn] at HF0
  have HF : Hid (Nl.Fit g.terms.length n g.rules) := HF0
  obtain ⟨hsz, h8⟩ := Nl.sizes_of hg
  have H8 : Hid _ := h8
  have hnI : (g.terms.length : Int) + (g.names.length : Int) = (n : Int) := by omega
  have HN0 : Hid (0 < g.names.length) := by show 0 < _; omega
  have HGD : Hid (∀ (W : World), Below w.heap.size w W → Calls Tryz.prog 6 #[.agg (gmCells g ⟨ta, tc, na, nc, ra, rac⟩)] W fun e w' => e = .returned (.bool true) ∧ Below W.heap.size W w') := fun W hW => refGood_any true g _ W hm (h.next hW) (by rw [Gr.refGood_is]; exact hg)
  have HO8 : Hid (∀ (W : World) (x : List Int) (yo : Option Addr) (yc : Nat), Below w.heap.size w W → IntsAt W.heap.size W yo x → x.length ≤ 4000 → Calls Tryz.prog 30 #[.agg (gmCells g ⟨ta, tc, na, nc, ra, rac⟩), .slice yo x.length yc] W fun e w' => ∃ xo xc, e = .returned (.agg #[.slice xo (Fi.ofG g x).length xc, .bool (Fi.okG g x)]) ∧ Hid (IntsAt w'.heap.size w' xo (Fi.ofG g x)) ∧ Hid (Below W.heap.size W w')) := fun W x yo yc hW hx h4 => refOf8_is g _ x yo yc W HM.out (HG.out.next hW) hx h4
  have HA6 : Hid (∀ (r : Bool) (W : World) (x : List Int) (yo : Option Addr) (yc : Nat), Below w.heap.size w W → IntsAt W.heap.size W yo x → x.length ≤ 4000 → Nl.all g x = r → Calls Tryz.prog 31 #[.agg (gmCells g ⟨ta, tc, na, nc, ra, rac⟩), .slice yo x.length yc] W fun e w' => e = .returned (.bool r) ∧ Below W.heap.size W w') := fun r W x yo yc hW hx h4 hr => refAll6_is r g _ x yo yc W HM.out (HG.out.next hW) hx h4 hr
  have R : Hid (Fo.setsG g = (Fo.tabG g).map Fi.rise) := by show _ = _; simp [Fo.setsG, hg]
  have hbW : Hid (Below w.heap.size w (w.alloc (Obj.cells #[.slice ta g.terms.length tc, .slice na g.names.length nc, .slice ra g.rules.length rac] 25))) := (Below.refl _ w).alloc (Nat.le_refl _) _
  have B0 : Hid ((w.alloc (Obj.cells #[.slice ta g.terms.length tc, .slice na g.names.length nc, .slice ra g.rules.length rac] 25)).heap[w.heap.size]? = some (.cells #[.slice ta g.terms.length tc, .slice na g.names.length nc, .slice ra g.rules.length rac] 25 (0, 0))) := heap_alloc_new w _
  have hmb := make_rowsB (g.names.length : Int) g.names.length rfl (by omega)
  have hme : ∀ W : World, (Instr.makeSlice 35 (.int .i64 ((n : Int) + 1)) (.int .i64 ((n : Int) + 1))).run Tryz.prog W = .ok (.slice (some ⟨W.heap.size, 0, none⟩) (n + 1) (n + 1)) (W.alloc (.cells (Array.replicate (n + 1) (Value.bool false)) 4)) := fun W => by
    have := make_boolsN (n + 1) (by omega) W
    rw [show ((n + 1 : Nat) : Int) = (n : Int) + 1 from by omega] at this
    exact this
  have hws : IntKind.wrap .i64 ((g.terms.length : Int) + (g.names.length : Int)) = (n : Int) := by rw [hnI, IntKind.wrap_i64]; omega
  have hwn2 : IntKind.wrap .i64 (n : Int) = (n : Int) := by rw [IntKind.wrap_i64]; omega
  clear h hm h8 HF0
  simp only [gmCells] at HGD HO8 HA6 ⊢
  go_enter Tryz.func11, Tryz.ntmps11
  go_wp2_with (go_at_call 6; fail)
  generalize (w.alloc (Obj.cells #[.slice ta g.terms.length tc, .slice na g.names.length nc, .slice ra g.rules.length rac] 25)) = W at *
  refine Calls.mono (HGD.out _ hbW.out) ?_
  rintro e w1 ⟨rfl, hb1⟩
  have HB1 : Hid (Below w.heap.size w w1) := hbW.out.trans (hb1.mono hbW.out.size)
  have B1 : Hid (w1.heap[w.heap.size]? = some (.cells #[.slice ta g.terms.length tc, .slice na g.names.length nc, .slice ra g.rules.length rac] 25 (0, 0))) := (hb1.block _ (Array.getElem?_eq_some_iff.1 B0.out).1).trans B0.out
  clear hb1 B0 hbW HGD
  have HC0 : Hid (∀ v1 : World, Lat w1.drew v1 → v1.cell? ⟨w.heap.size, 0, none⟩ = some (.slice ta g.terms.length tc) ∧ v1.cell? ⟨w.heap.size, 1, none⟩ = some (.slice na g.names.length nc) ∧ v1.cell? ⟨w.heap.size, 2, none⟩ = some (.slice ra g.rules.length rac)) := fun v1 hL => by
    have h := cells_three_z ((hL.of_drew.block _ (Array.getElem?_eq_some_iff.1 B1.out).1).trans B1.out)
    exact ⟨h.1, h.2.1, h.2.2.1⟩
  go_upto_region 3 with fail
  refine wp_region_lat [.val (.pointer (some ⟨w.heap.size, 0, none⟩)), .val (.slice ta g.terms.length tc), .val (.int .i64 g.terms.length), .val (.pointer (some ⟨w.heap.size, 0, none⟩)), .val (.slice ta g.terms.length tc), .val (.int .i64 g.terms.length), .val (.pointer (some ⟨w.heap.size, 1, none⟩)), .val (.slice na g.names.length nc), .val (.int .i64 g.names.length), .val (.int .i64 (n : Int)), .val (.int .i64 g.terms.length), .val (.int .i64 (n : Int))] [] (by kernel_rfl) (by kernel_rfl) rfl ?kept0 ?walk0
  case kept0 => exact trivial
  case walk0 =>
    refine wpFacts_val (by rfl) (fun w1 hL hd K hK => ?_) ?_
    · go_simp
      exact hK _ (Lat.refl _)
    refine wpFacts_norm (by simp only [Act.put, List.setIfInBounds_toArray, List.set_cons_zero, List.set_cons_succ]; rfl) (by simp only [List.nil_append]; rfl) ?_
    refine wpFacts_val (by rfl) (fun w1 hL hd K hK => ?_) ?_
    · obtain ⟨d0, d1, d2⟩ := HC0.out w1 hL
      go_simp
      exact hK _ (Lat.refl _)
    refine wpFacts_norm (by simp only [Act.put, List.setIfInBounds_toArray, List.set_cons_zero, List.set_cons_succ]; rfl) (by simp only [List.cons_append, List.nil_append]; rfl) ?_
    refine wpFacts_val (by rfl) (fun w1 hL hd K hK => ?_) ?_
    · go_simp
      exact hK _ (Lat.refl _)
    refine wpFacts_norm (by simp only [Act.put, List.setIfInBounds_toArray, List.set_cons_zero, List.set_cons_succ]; rfl) (by simp only [List.cons_append, List.nil_append]; rfl) ?_
    refine wpFacts_val (by rfl) (fun w1 hL hd K hK => ?_) ?_
    · go_simp
      exact hK _ (Lat.refl _)
    refine wpFacts_norm (by simp only [Act.put, List.setIfInBounds_toArray, List.set_cons_zero, List.set_cons_succ]; rfl) (by simp only [List.cons_append, List.nil_append]; rfl) ?_
    refine wpFacts_val (by rfl) (fun w1 hL hd K hK => ?_) ?_
    · obtain ⟨d0, d1, d2⟩ := HC0.out w1 hL
      go_simp
      exact hK _ (Lat.refl _)
    refine wpFacts_norm (by simp only [Act.put, List.setIfInBounds_toArray, List.set_cons_zero, List.set_cons_succ]; rfl) (by simp only [List.cons_append, List.nil_append]; rfl) ?_
    refine wpFacts_val (by rfl) (fun w1 hL hd K hK => ?_) ?_
    · go_simp
      exact hK _ (Lat.refl _)
    refine wpFacts_norm (by simp only [Act.put, List.setIfInBounds_toArray, List.set_cons_zero, List.set_cons_succ]; rfl) (by simp only [List.cons_append, List.nil_append]; rfl) ?_
    refine wpFacts_val (by rfl) (fun w1 hL hd K hK => ?_) ?_
    · go_simp
      exact hK _ (Lat.refl _)
    refine wpFacts_norm (by simp only [Act.put, List.setIfInBounds_toArray, List.set_cons_zero, List.set_cons_succ]; rfl) (by simp only [List.cons_append, List.nil_append]; rfl) ?_
    refine wpFacts_val (by rfl) (fun w1 hL hd K hK => ?_) ?_
    · obtain ⟨d0, d1, d2⟩ := HC0.out w1 hL
      go_simp
      exact hK _ (Lat.refl _)
    refine wpFacts_norm (by simp only [Act.put, List.setIfInBounds_toArray, List.set_cons_zero, List.set_cons_succ]; rfl) (by simp only [List.cons_append, List.nil_append]; rfl) ?_
    refine wpFacts_val (by rfl) (fun w1 hL hd K hK => ?_) ?_
    · go_simp
      exact hK _ (Lat.refl _)
    refine wpFacts_norm (by simp only [Act.put, List.setIfInBounds_toArray, List.set_cons_zero, List.set_cons_succ]; rfl) (by simp only [List.cons_append, List.nil_append]; rfl) ?_
    refine wpFacts_val (by rfl) (fun w1 hL hd K hK => ?_) ?_
    · go_simp
      exact hK _ (Lat.refl _)
    refine wpFacts_norm (by simp only [Act.put, List.setIfInBounds_toArray, List.set_cons_zero, List.set_cons_succ]; rfl) (by simp only [List.cons_append, List.nil_append]; rfl) ?_
    refine wpFacts_val (by rfl) (fun w1 hL hd K hK => ?_) ?_
    · go_simp
      exact hK _ (Lat.refl _)
    refine wpFacts_norm (by simp only [Act.put, List.setIfInBounds_toArray, List.set_cons_zero, List.set_cons_succ]; rfl) (by simp only [List.cons_append, List.nil_append]; rfl) ?_
    refine wpFacts_val (by rfl) (fun w1 hL hd K hK => ?_) ?_
    · go_simp
      exact hK _ (Lat.refl _)
    refine wpFacts_norm (by simp only [Act.put, List.setIfInBounds_toArray, List.set_cons_zero, List.set_cons_succ]; rfl) (by simp only [List.cons_append, List.nil_append]; rfl) ?_
    intro w2 hL2 ha0
    have B2 : Hid (w2.heap[w.heap.size]? = some (.cells #[.slice ta g.terms.length tc, .slice na g.names.length nc, .slice ra g.rules.length rac] 25 (0, 0))) := (hL2.of_drew.block _ (Array.getElem?_eq_some_iff.1 B1.out).1).trans B1.out
    have HB2 : Hid (Below w.heap.size w w2) := HB1.out.trans (Below.mono hL2.of_drew HB1.out.size)
    clear ha0 hL2 HC0 B1 HB1
    obtain ⟨g0, g1, g2, _⟩ := cells_three_z B2.out
    have hgz := (Array.getElem?_eq_some_iff.1 B2.out).1
    have hb3 : Hid (Below w2.heap.size w2 (w2.alloc (Obj.cells (Array.replicate g.names.length (Value.slice none 0 0)) 35))) := (Below.refl _ w2).alloc (Nat.le_refl _) _
    have s3 : Hid ((w2.alloc (Obj.cells (Array.replicate g.names.length (Value.slice none 0 0)) 35)).heap[w2.heap.size]? = some (.cells (Array.replicate g.names.length (Value.slice none 0 0)) 35 (0, 0))) := heap_alloc_new w2 _
    go_upto_region 5 with fail
    generalize (w2.alloc (Obj.cells (Array.replicate g.names.length (Value.slice none 0 0)) 35)) = W3 at *
    have HS1 : Hid (w.heap.size < w2.heap.size) := hgz
    have HB3 : Hid (Below w.heap.size w W3) := HB2.out.trans (hb3.out.mono HB2.out.size)
    have gb3 : Hid (W3.heap[w.heap.size]? = some (.cells #[.slice ta g.terms.length tc, .slice na g.names.length nc, .slice ra g.rules.length rac] 25 (0, 0))) := (hb3.out.block _ hgz).trans B2.out
    generalize w2.heap.size = S at *
    clear B2 HB2 hb3 g0 g1 g2 hgz hws
    have hS3 := (Array.getElem?_eq_some_iff.1 s3.out).1
    go_wp2_with fail
    go_loopw [6] (fun i wr => ∃ (k : Nat) (Bs : List Nat), k ≤ g.names.length ∧ i = .int .i64 k ∧ Bs.length = k ∧ Hid (FRows W3 wr S (n + 1) g.names.length Bs)) (fun i _ => g.names.length - (intOf i).toNat)
    case atStart => exact ⟨0, [], Nat.zero_le _, rfl, rfl, ⟨ButL.refl _ _, by rw [s3.out]; simp [hdrs], fun b hb => by simp at hb, List.nodup_nil⟩⟩
    case round =>
      obtain ⟨k, Bs, hk, rfl, hBs, hR⟩ := hrel
      by_cases hkl : k < g.names.length
      · have hki : (k : Int) < (g.names.length : Int) := by omega
        have hSl := (Array.getElem?_eq_some_iff.1 hR.out.sb).1
        have hkh : k < (hdrs Bs (n + 1) g.names.length).length := by rw [hdrs_len _ _ _ (by omega)]; exact hkl
        have c0 : wr.cell? ⟨S, k, none⟩ = some ((hdrs Bs (n + 1) g.names.length)[k]) := by simp [World.cell?, hR.out.sb, hkh]
        have f0 : wr.frozen? ⟨S, k, none⟩ = false := by simp [World.frozen?, hR.out.sb]
        have N0 : Hid (FRows W3 ((wr.setCell ⟨S, k, none⟩ (.slice (some ⟨wr.heap.size, 0, none⟩) (n + 1) (n + 1))).alloc (Obj.cells (Array.replicate (n + 1) (Value.bool false)) 4)) S (n + 1) g.names.length (Bs ++ [wr.heap.size])) := by
          have := hR.out.push (w1 := wr.alloc (Obj.cells (Array.replicate (n + 1) (Value.bool false)) 4)) (B := wr.heap.size) (by omega) ((Below.refl _ wr).alloc (Nat.le_refl _) _) (Nat.le_refl _) (heap_alloc_new wr _) hS3
          rw [hBs, World.setCell_alloc_past _ _ _ _ hSl] at this
          exact this
        have hwn : IntKind.wrap .i64 ((n : Int) + 1) = (n : Int) + 1 := by rw [IntKind.wrap_i64]; omega
        clear hR
        go_wp2_with fail
        go_roundw
        case rel => exact ⟨k + 1, _, by omega, by go_num, by simp [hBs], N0⟩
        case measure => simp [intOf]; omega
      · obtain rfl : k = g.names.length := by omega
        have hki : ¬ (g.names.length : Int) < (g.names.length : Int) := by omega
        have R4 : Hid (RowsAt S (n + 1) Bs (List.replicate g.names.length (List.replicate (n + 1) false)) wr) := hR.out.done hBs
        have BSG : Hid (∀ b ∈ Bs, W3.heap.size ≤ b) := fun b hb => (hR.out.row b hb).1
        have HB4 : Hid (Below w.heap.size w wr) := HB3.out.trans (hR.out.but.below (fun q hq => by rw [List.mem_singleton] at hq; have := HS1.out; omega) HB3.out.size)
        have gb4 : Hid (wr.heap[w.heap.size]? = some (.cells #[.slice ta g.terms.length tc, .slice na g.names.length nc, .slice ra g.rules.length rac] 25 (0, 0))) := (hR.out.but.block _ (Array.getElem?_eq_some_iff.1 gb3.out).1 (by rw [List.mem_singleton]; have := HS1.out; omega)).trans gb3.out
        have hz3 : Hid (W3.heap.size ≤ wr.heap.size) := hR.out.but.size
        have hB0 : 0 < Bs.length := by have := HN0.out; omega
        have c0 := R4.out.head 0 hB0
        obtain ⟨c1, f1⟩ := R4.out.cell 0 n hB0 (by omega)
        have R5 : Hid (RowsAt S (n + 1) Bs (Fi.put (List.replicate g.names.length (List.replicate (n + 1) false)) ((0 : Nat) : Int) (n : Int)) (wr.setCell ⟨Bs[0], n, none⟩ (.bool true))) := R4.out.put 0 n hB0
        have hb5 : Hid (ButL Bs wr (wr.setCell ⟨Bs[0], n, none⟩ (.bool true))) := (ButL.refl _ wr).setCell (List.getElem_mem hB0) _ _
        have hSl := R4.out.lt.1
        have hBl := R4.out.lt.2 _ (List.getElem_mem hB0)
        have hni : (n : Int) < (n : Int) + 1 := by omega
        have hN0i : (0 : Int) < (g.names.length : Int) := by have := HN0.out; omega
        have gb5 : Hid ((wr.setCell ⟨Bs[0], n, none⟩ (.bool true)).heap[w.heap.size]? = some (.cells #[.slice ta g.terms.length tc, .slice na g.names.length nc, .slice ra g.rules.length rac] 25 (0, 0))) := (hb5.out.block _ (Array.getElem?_eq_some_iff.1 gb4.out).1 (fun e => by have := BSG.out _ e; have := (Array.getElem?_eq_some_iff.1 gb3.out).1; omega)).trans gb4.out
        have HB5 : Hid (Below w.heap.size w (wr.setCell ⟨Bs[0], n, none⟩ (.bool true))) := HB4.out.trans (hb5.out.below (fun q hq => by have := BSG.out q hq; have := (Array.getElem?_eq_some_iff.1 gb3.out).1; omega) HB4.out.size)
        generalize hBe : Bs[0] = Bz at *
        clear hR gb4 HB4 R4 hb5 hz3
        go_upto_region 10 with fail
        clear c0 c1 f1 hSl hBl hBe
        generalize (wr.setCell ⟨Bz, n, none⟩ (.bool true)) = W5 at *
        have HBB : Hid (∀ W : World, ButL Bs W5 W → Below w.heap.size w W ∧ W.heap[w.heap.size]? = some (.cells #[.slice ta g.terms.length tc, .slice na g.names.length nc, .slice ra g.rules.length rac] 25 (0, 0))) := fun W hW => by
          have h1 := (Array.getElem?_eq_some_iff.1 gb3.out).1
          exact ⟨HB5.out.trans (hW.below (fun q hq => by have := BSG.out q hq; omega) HB5.out.size), (hW.block _ (Array.getElem?_eq_some_iff.1 gb5.out).1 fun e => by have := BSG.out _ e; omega).trans gb5.out⟩
        have P0 : Hid (Fi.Shape g.names.length (n + 1) (Fi.put (List.replicate g.names.length (List.replicate (n + 1) false)) ((0 : Nat) : Int) (n : Int))) := (Fi.none_shape g.names.length (n + 1)).put (by omega) (by have := HN0.out; omega)
        have P1 : Hid (∀ a v, Fi.has (Fi.put (List.replicate g.names.length (List.replicate (n + 1) false)) ((0 : Nat) : Int) (n : Int)) a v = true → Fo.Fol g.rules (Nl.of g) g.terms.length n a v) := fun a v h => by
          obtain ⟨rfl, rfl⟩ := (Fo.start_has _ _ HN0.out a v).1 h
          exact .base _ _ (.inl ⟨rfl, rfl⟩)
        have P2 : Hid (Fi.has (Fi.put (List.replicate g.names.length (List.replicate (n + 1) false)) ((0 : Nat) : Int) (n : Int)) 0 n = true) := (Fo.start_has _ _ HN0.out 0 n).2 ⟨rfl, rfl⟩
        have HBl : Hid (Bs.length = g.names.length) := hBs
        clear gb3 gb5 HB5 HB3 s3 hS3 hmb hBs hk hkl
        go_wp2_with fail
        go_loopw [7] (fun c wr => ∃ (ch : Bool) (ss : List (List Bool)), c = .bool ch ∧ Hid (ButL Bs W5 wr) ∧ Hid (RowsAt S (n + 1) Bs ss wr) ∧ Hid (Fi.Shape g.names.length (n + 1) ss) ∧ Hid (∀ a v, Fi.has ss a v = true → Fo.Fol g.rules (Nl.of g) g.terms.length n a v) ∧ Hid (Fi.has ss 0 n = true) ∧ Hid (ch = false → ss = Fo.tab (Fo.Fol g.rules (Nl.of g) g.terms.length n) g.names.length (n + 1))) (fun c wr => tmeas g.names.length (n + 1) S c wr)
        case atStart => exact ⟨true, _, rfl, ButL.refl _ _, R5, P0, P1, P2, fun h => (by cases h)⟩
        case round =>
          obtain ⟨ch, ss, rfl, hbt, hR, hS0, hS1, hS2, hD⟩ := hrel
          clear R5 P0 P1 P2
          cases ch
          · have hd := hD.out rfl
            have RR : Hid (RowsAt S (n + 1) Bs (Fo.tabG g) wr) := by
              have h := hR.out
              rw [hd] at h
              unfold Fo.tabG
              rw [hn]; exact h
            have HBz : Hid (Below w.heap.size w wr) := (HBB.out wr hbt.out).1
            clear hR hbt hD hd hS0 hS1 hS2 HBB HO8 HA6 HF HG HM hme
            have htl : Hid ((Fo.tabG g).length = g.names.length) := (Fo.tabG_shape g).len
            have HEA : Hid (∀ k, k < g.names.length → ((Fo.tabG g).getD k []).length = n + 1) := fun k hk => by
              have hkl : k < (Fo.tabG g).length := by rw [htl.out]; exact hk
              have : (Fo.tabG g).getD k [] = (Fo.tabG g)[k] := by simp [List.getD_eq_getElem?_getD, hkl]
              rw [this]; exact RR.out.each _ (List.getElem_mem hkl)
            obtain ⟨W6, rfl⟩ : ∃ W6, W6 = wr := ⟨wr, rfl⟩
            generalize hts : Fo.tabG g = ts at *
            go_wp2_with fail
            go_loopw [17, 18] (fun l i wr => ∃ (k : Nat) (xo : Option Addr) (xc : Nat), k ≤ g.names.length ∧ i = .int .i64 k ∧ l = .slice xo k xc ∧ Hid (OwnRows W6.heap.size wr (.slice xo k xc) ((ts.take k).map Fi.rise)) ∧ Hid (Below W6.heap.size W6 wr)) (fun _ i _ => g.names.length - (intOf i).toNat)
            case atStart => exact ⟨0, none, 0, Nat.zero_le _, rfl, rfl, OwnRows.nil _ _, Below.refl _ _⟩
            case round =>
              obtain ⟨k, xo, xc, hk, rfl, rfl, hO, hbk⟩ := hrel
              by_cases hkl : k < g.names.length
              · have hki : (k : Int) < (g.names.length : Int) := by omega
                have hkB : k < Bs.length := by have := HBl.out; omega
                have ST : Hid _ := Fi.map_step Fi.rise ts k (by have := htl.out; omega)
                have HLN : Hid (((ts.take k).map Fi.rise).length = k) := by
                  show _ = _; rw [List.length_map, List.length_take]; have := htl.out; omega
                have HCE : Hid (∀ W : World, Below W6.heap.size W6 W → W.cell? ⟨S, k, none⟩ = some (.slice (some ⟨Bs[k], 0, none⟩) (n + 1) (n + 1)) ∧ S < W.heap.size ∧ Bs[k] < W.heap.size ∧ ∀ q, q < n + 1 → W.cell? ⟨Bs[k], q, none⟩ = some (.bool ((ts.getD k []).getD q false))) := fun W hW => by
                  have h := RR.out.later hW
                  refine ⟨h.head k hkB, h.lt.1, h.lt.2 _ (List.getElem_mem hkB), fun q hq => ?_⟩
                  have := (h.cell k q hkB hq).1
                  rw [this]; simp [Fi.has, Fi.row, Nl.isAt]
                have HBN : Hid ((ts.getD k []).length = n + 1) := HEA.out k hkl
                generalize (ts.take k).map Fi.rise = xs at *
                generalize ts.getD k [] = bs at *
                generalize Bs[k] = B at *
                obtain ⟨W7, rfl⟩ : ∃ W7, W7 = wr := ⟨wr, rfl⟩
                go_wp2_with fail
                go_loopw [19, 20] (fun l i wr => ∃ (q : Nat) (yo : Option Addr) (yc : Nat), q ≤ n + 1 ∧ i = .int .i64 q ∧ l = .slice yo (Fi.riseTo bs q).length yc ∧ Hid (OwnInts W7.heap.size wr (.slice yo (Fi.riseTo bs q).length yc) (Fi.riseTo bs q)) ∧ Hid (Below W7.heap.size W7 wr)) (fun _ i _ => n + 1 - (intOf i).toNat)
                case atStart => exact ⟨0, none, 0, Nat.zero_le _, rfl, rfl, World.ownsRow_nil _ _ _ _, Below.refl _ _⟩
                case round =>
                  obtain ⟨q, yo, yc, hq, rfl, rfl, hP, hW⟩ := hrel
                  have HBQ : Hid (Below W6.heap.size W6 wr) := hbk.out.trans (hW.out.mono hbk.out.size)
                  by_cases hlt : q ≤ n
                  · have hqi : (q : Int) ≤ (n : Int) := by omega
                    have hqi2 : (q : Int) < (n : Int) + 1 := by omega
                    obtain ⟨c0, hSl, hBl, c1⟩ := HCE.out wr HBQ.out
                    have c2 := c1 q (by omega)
                    have RS := Fi.riseTo_succ bs q
                    have hrl := Fi.riseTo_len bs q
                    clear c1
                    generalize bs.getD q false = y at *
                    cases y
                    · have R1 : Hid (Fi.riseTo bs (q + 1) = Fi.riseTo bs q) := by show _ = _; rw [RS]; simp
                      clear RS
                      go_wp2_with fail
                      go_roundw
                      case rel => exact ⟨q + 1, yo, yc, by omega, by go_num, by rw [R1.out], by show OwnInts _ _ _ _; rw [R1.out]; exact hP.out, hW⟩
                      case measure => simp [intOf]; omega
                    · have R1 : Hid (Fi.riseTo bs (q + 1) = Fi.riseTo bs q ++ [(q : Int)]) := by show _ = _; rw [RS]; simp
                      have hb2 : Hid (Below wr.heap.size wr (wr.alloc (Obj.cells #[.int .i64 (q : Int)] 3))) := (Below.refl _ wr).alloc (Nat.le_refl _) _
                      have HO2 : Hid (OwnInts W7.heap.size (wr.alloc (Obj.cells #[.int .i64 (q : Int)] 3)) (.slice yo (Fi.riseTo bs q).length yc) (Fi.riseTo bs q)) := ownsRow_below hP.out hb2.out
                      have hbase : W7.heap.size ≤ (wr.alloc (Obj.cells #[.int .i64 (q : Int)] 3)).heap.size := Nat.le_trans hW.out.size hb2.out.size
                      have HB2 : Hid _ := hW.out.trans (hb2.out.mono hW.out.size)
                      clear RS hP
                      generalize hrs : Fi.riseTo bs q = rs at *
                      have hrn : rs.length ≤ 4001 := by have := HBN.out; omega
                      go_wp2_with (first
                        | (at_builtin; refine wpList_append_oint rfl _ _ rfl W7.heap.size _ rs rfl HO2.out wr.heap.size 1 q rfl (by simp [go_sem]) (by omega) hbase ?_; intro ga cap w8 ho8 hg8))
                      have HB8 : Hid (Below W7.heap.size W7 w8) := HB2.out.grown hg8 hbase (fun k hk => (HO2.out.lt k hk).1)
                      have HO8 : Hid (OwnInts W7.heap.size w8 (.slice (some ⟨ga, 0, none⟩) (Fi.riseTo bs (q + 1)).length cap) (Fi.riseTo bs (q + 1))) := by
                        show OwnInts _ _ _ _
                        rw [R1.out, List.length_append]; exact ho8
                      have hlen : rs.length + 1 = (Fi.riseTo bs (q + 1)).length := by rw [R1.out, List.length_append]; rfl
                      rw [hlen]
                      clear ho8 hg8 hrs
                      go_roundw
                      case rel => exact ⟨q + 1, _, _, by omega, by go_num, rfl, HO8, HB8⟩
                      case measure => simp [intOf]; omega
                  · obtain rfl : q = n + 1 := by omega
                    have hqi : ¬ ((n + 1 : Nat) : Int) ≤ (n : Int) := by omega
                    have hre : Fi.riseTo bs (n + 1) = Fi.rise bs := by rw [← HBN.out]; rfl
                    rw [hre] at hP
                    generalize Fi.rise bs = rs at *
                    have hb7 : Hid (Below wr.heap.size wr (wr.alloc (Obj.cells #[.slice yo rs.length yc] 31))) := (Below.refl _ wr).alloc (Nat.le_refl _) _
                    have HO7 : Hid (OwnRows W6.heap.size (wr.alloc (Obj.cells #[.slice yo rs.length yc] 31)) (.slice xo k xc) xs) := (hO.out.below hW.out).below hb7.out
                    have HU7 : Hid (OwnInts W6.heap.size (wr.alloc (Obj.cells #[.slice yo rs.length yc] 31)) (.slice yo rs.length yc) rs) := ownsRow_below (ownsRow_from hP.out hbk.out.size) hb7.out
                    have HB7 : Hid (Below W6.heap.size W6 (wr.alloc (Obj.cells #[.slice yo rs.length yc] 31))) := HBQ.out.alloc HBQ.out.size _
                    have hbase := HB7.out.size
                    rw [hre]
                    clear hO hb7 hP hre
                    go_wp2_with (at_builtin; refine wpList_append_row rfl _ _ rfl W6.heap.size _ xs rfl HO7.out wr.heap.size 1 _ rs HU7.out rfl (by simp [go_sem]) (by rw [HLN.out]; omega) hbase ?_; intro ga cap w8 ho8 hg8)
                    have HB8 : Hid (Below W6.heap.size W6 w8) := by
                      obtain ⟨vs, h1, _⟩ := HO7.out
                      exact HB7.out.grown hg8 hbase (fun k hk => (h1.lt k hk).1)
                    have HO8 : Hid (OwnRows W6.heap.size w8 (.slice (some ⟨ga, 0, none⟩) (k + 1) cap) ((ts.take (k + 1)).map Fi.rise)) := by
                      show OwnRows _ _ _ _
                      rw [ST.out]; rw [HLN.out] at ho8; exact ho8
                    rw [HLN.out]
                    clear ho8 hg8 HO7 HU7 HB7 hbk
                    go_roundw
                    case rel => exact ⟨k + 1, _, _, by omega, by go_num, rfl, HO8, HB8⟩
                    case measure => simp [intOf]; omega
              · obtain rfl : k = g.names.length := by omega
                have hki : ¬ (g.names.length : Int) < (g.names.length : Int) := by omega
                have hfin : ts.take g.names.length = ts := List.take_of_length_le (by have := htl.out; omega)
                have RL : Hid ((Fo.setsG g).length = g.names.length) := by show _ = _; rw [R.out, List.length_map]; exact htl.out
                have RD : Hid (LisAt wr.heap.size wr xo (Fo.setsG g)) := by
                  have h0 := hO.out
                  rw [hfin] at h0
                  obtain ⟨ao, c, e, h1, _⟩ := OwnRows.read h0
                  simp only [Value.slice.injEq] at e
                  obtain ⟨rfl, _⟩ := e
                  show LisAt _ _ _ _
                  rw [R.out]; exact h1
                clear hO hfin
                go_wp2_with fail
                go_ret
                exact ⟨xo, ⟨xc, by rw [RL.out]; rfl⟩, RD, HBz.out.trans (hbk.out.mono HBz.out.size)⟩
          · obtain ⟨MO, hMO⟩ : ∃ MO, tmeas g.names.length (n + 1) S (.bool true) wr = MO := ⟨_, rfl⟩
            have HM0 : Hid (2 * (g.names.length * (n + 1) - Fi.cnt2 ss) + 1 = MO) := by
              show _ = _
              rw [← hMO]; unfold tmeas; rw [hR.out.read]
            have HMO : Hid (tmeas g.names.length (n + 1) S (.bool true) wr = MO) := hMO
            have P0 : Hid (Fo.Rnd g.rules (Nl.of g) g.terms.length n g.names.length ss ss false 0 0) := Fo.Rnd.begin hS0.out hS1.out hS2.out
            clear hMO hS0 hS1 hS2 hD
            go_wp2_with fail
            go_loopw [7, 8] (fun c i wr => ∃ (ch : Bool) (k : Nat) (s1 : List (List Bool)), k ≤ g.rules.length ∧ c = .bool ch ∧ i = .int .i64 k ∧ Hid (ButL Bs W5 wr) ∧ Hid (RowsAt S (n + 1) Bs s1 wr) ∧ Hid (Fo.Rnd g.rules (Nl.of g) g.terms.length n g.names.length ss s1 ch k 0)) (fun _ i _ => g.rules.length - (intOf i).toNat)
            case atStart => exact ⟨false, 0, ss, Nat.zero_le _, rfl, rfl, hbt, hR, P0⟩
            case round =>
              obtain ⟨ch, k, s1, hk, rfl, rfl, hbt, hR, hP⟩ := hrel
              clear P0
              obtain ⟨HBw, hgb⟩ := HBB.out wr hbt.out
              have HBW : Hid (Below w.heap.size w wr) := HBw
              obtain ⟨g0, g1, g2, _⟩ := cells_three_z hgb
              have hgl := (Array.getElem?_eq_some_iff.1 hgb).1
              clear hgb HBw
              by_cases hkl : k < g.rules.length
              · have hki : (k : Int) < (g.rules.length : Int) := by omega
                obtain ⟨rb, ro, xo, xc, rfl, _, _, k0, k1, ki, _⟩ := HG.out.rules k hkl
                replace k0 := cell_later HBW.out k0
                replace k1 := cell_later HBW.out k1
                have hmm : g.rules[k] ∈ g.rules := List.getElem_mem hkl
                have h8 := H8.out _ hmm
                have hin := HF.out.right _ hmm
                have hlf := HF.out.left _ hmm
                have HSK : Hid (∀ (s1 : List (List Bool)) (ch : Bool) (j : Nat) (hj : j < g.rules[k].2.length), Fo.Rnd g.rules (Nl.of g) g.terms.length n g.names.length ss s1 ch k j → g.rules[k].2[j] < (g.terms.length : Int) → Fo.Rnd g.rules (Nl.of g) g.terms.length n g.names.length ss s1 ch k (j + 1)) := fun s1 ch j hj h a => h.skip hkl hj a
                have HRU : Hid (∀ (s1 : List (List Bool)) (ch : Bool), Fo.Rnd g.rules (Nl.of g) g.terms.length n g.names.length ss s1 ch k g.rules[k].2.length → Fo.Rnd g.rules (Nl.of g) g.terms.length n g.names.length ss s1 ch (k + 1) 0) := fun s1 ch h => Fo.Rnd.rule hkl h
                have HEN : Hid (∀ (s1 s2 : List (List Bool)) (ch ch2 : Bool) (add : List Bool) (j : Nat) (hj : j < g.rules[k].2.length), Fo.Rnd g.rules (Nl.of g) g.terms.length n g.names.length ss s1 ch k j → add.length = n + 1 → (∀ v, Fo.Asks g.rules (Nl.of g) g.terms.length s1 (g.rules[k].1 - (g.terms.length : Int)) (g.rules[k].2.drop (j + 1)) v → Nl.isAt add v = true) → Fo.Mrg g.rules (Nl.of g) g.terms.length n g.names.length ss s1 ch add (g.rules[k].2[j] - (g.terms.length : Int)) s2 ch2 (n + 1) → Fo.Rnd g.rules (Nl.of g) g.terms.length n g.names.length ss s2 ch2 k (j + 1)) := fun s1 s2 ch ch2 add j hj h hl ha hm => Fo.Mrg.end h hkl hj hl ha hm
                have HFO : Hid (∀ (s1 : List (List Bool)) (ch : Bool) (j : Nat) (hj : j < g.rules[k].2.length), Fo.Rnd g.rules (Nl.of g) g.terms.length n g.names.length ss s1 ch k j → (g.terms.length : Int) ≤ g.rules[k].2[j] → ∀ v, Fo.Asks g.rules (Nl.of g) g.terms.length s1 (g.rules[k].1 - (g.terms.length : Int)) (g.rules[k].2.drop (j + 1)) v → Fo.Fol g.rules (Nl.of g) g.terms.length n (g.rules[k].2[j] - (g.terms.length : Int)) v) := fun s1 ch j hj h a v q => h.fol hkl hj a q
                have KI : Hid (IntsAt w.heap.size w xo g.rules[k].2) := ki
                clear ki hmm
                generalize g.rules[k] = y at *
                obtain ⟨lz, rs⟩ := y
                simp only at k0 k1 h8 hin hlf HSK HRU HEN HFO KI
                obtain ⟨l, rfl⟩ : ∃ l : Nat, lz = l := ⟨lz.toNat, by omega⟩
                have hbn : Hid (Below wr.heap.size wr (wr.alloc (Obj.cells #[.int .i64 (l : Int), .slice xo rs.length xc] 43))) := (Below.refl _ wr).alloc (Nat.le_refl _) _
                have kn : Hid ((wr.alloc (Obj.cells #[.int .i64 (l : Int), .slice xo rs.length xc] 43)).heap[wr.heap.size]? = some (.cells #[.int .i64 (l : Int), .slice xo rs.length xc] 43 (0, 0))) := heap_alloc_new wr _
                have bt4 : Hid (ButL Bs W5 (wr.alloc (Obj.cells #[.int .i64 (l : Int), .slice xo rs.length xc] 43))) := hbt.out.trans (ButL.of hbn.out)
                have R4 : Hid _ := hR.out.later hbn.out
                clear hbt hR hbn HBW
                go_wp2_with fail
                generalize (wr.alloc (Obj.cells #[.int .i64 (l : Int), .slice xo rs.length xc] 43)) = W6 at *
                generalize wr.heap.size = R at *
                clear k0 k1 g0 g1 g2 hgl
                go_loopw [7, 10] (fun c i wr => ∃ (ch : Bool) (j : Nat) (s1 : List (List Bool)), j ≤ rs.length ∧ c = .bool ch ∧ i = .int .i64 j ∧ Hid (ButL Bs W5 wr) ∧ Hid (RowsAt S (n + 1) Bs s1 wr) ∧ Hid (wr.heap[R]? = some (.cells #[.int .i64 (l : Int), .slice xo rs.length xc] 43 (0, 0))) ∧ Hid (Fo.Rnd g.rules (Nl.of g) g.terms.length n g.names.length ss s1 ch k j)) (fun _ i _ => rs.length - (intOf i).toNat)
                case atStart => exact ⟨ch, 0, s1, Nat.zero_le _, rfl, rfl, bt4, R4, kn, hP⟩
                case round =>
                  obtain ⟨ch, j, s1, hj, rfl, rfl, hbt, hR, hrb, hP⟩ := hrel
                  clear bt4 R4 kn
                  obtain ⟨r0, r1, _⟩ := cells_two_z hrb.out
                  have hrl := (Array.getElem?_eq_some_iff.1 hrb.out).1
                  by_cases hjl : j < rs.length
                  · have hji : (j : Int) < (rs.length : Int) := by omega
                    have hx := hin _ (List.getElem_mem hjl)
                    have hbl := (HBB.out wr hbt.out).1
                    obtain ⟨xb, xof, rfl, _, _, x0⟩ := IntsAt.get (KI.out.later hbl) j hjl
                    have SKJ : Hid _ := HSK.out s1 ch j hjl hP.out
                    have ENJ : Hid (∀ (s2 : List (List Bool)) (ch2 : Bool) (add : List Bool), add.length = n + 1 → (∀ v, Fo.Asks g.rules (Nl.of g) g.terms.length s1 ((l : Int) - (g.terms.length : Int)) (rs.drop (j + 1)) v → Nl.isAt add v = true) → Fo.Mrg g.rules (Nl.of g) g.terms.length n g.names.length ss s1 ch add (rs[j] - (g.terms.length : Int)) s2 ch2 (n + 1) → Fo.Rnd g.rules (Nl.of g) g.terms.length n g.names.length ss s2 ch2 k (j + 1)) := fun s2 ch2 add hl ha hm => HEN.out s1 s2 ch ch2 add j hjl hP.out hl ha hm
                    have FOJ : Hid ((g.terms.length : Int) ≤ rs[j] → ∀ v, Fo.Asks g.rules (Nl.of g) g.terms.length s1 ((l : Int) - (g.terms.length : Int)) (rs.drop (j + 1)) v → Fo.Fol g.rules (Nl.of g) g.terms.length n (rs[j] - (g.terms.length : Int)) v) := fun a v q => HFO.out s1 ch j hjl hP.out a v q
                    have X0 : Hid (∀ W : World, ButL Bs W5 W → W.cell? ⟨xb, xof + j, none⟩ = some (.int .i64 rs[j])) := fun W hW => by
                      obtain ⟨xb2, xo2, e, _, _, x⟩ := IntsAt.get (KI.out.later (HBB.out W hW).1) j hjl
                      cases e
                      exact x
                    by_cases hxt : rs[j] < (g.terms.length : Int)
                    · have N1 : Hid _ := SKJ.out hxt
                      generalize rs[j] = x at *
                      clear hP SKJ hbl
                      go_wp2_with fail
                      go_roundw
                      case rel => exact ⟨ch, j + 1, s1, by omega, rfl, by go_num, hbt, hR, hrb, N1⟩
                      case measure => simp [intOf]; omega
                    · have hjw : IntKind.wrap .i64 ((j : Int) + 1) = (j : Int) + 1 := by rw [IntKind.wrap_i64]; omega
                      obtain ⟨row, hrow⟩ : ∃ row, rs.drop (j + 1) = row := ⟨_, rfl⟩
                      have hrwl : row.length = rs.length - (j + 1) := by rw [← hrow, List.length_drop]
                      have ROE : Hid (rs.drop (j + 1) = row) := hrow
                      obtain ⟨so, hso⟩ : ∃ so, (if xc = j + 1 then some (⟨xb, xof, none⟩ : Addr) else some ⟨xb, xof + (j + 1), none⟩) = so := ⟨_, rfl⟩
                      have hsl : ∀ W : World, (Instr.slice 31 (.slice (some ⟨xb, xof, none⟩) rs.length xc) (some (.int .i64 ((j : Int) + 1))) none none).run Tryz.prog W = .ok (.slice so row.length (xc - (j + 1))) W := fun W => by
                        have := slice_tailI xb xof rs.length xc (j + 1) (by omega) W
                        rw [hso, ← hrwl, show ((j + 1 : Nat) : Int) = (j : Int) + 1 from by omega] at this
                        exact this
                      have ROW : Hid (∀ W : World, IntsAt w.heap.size W (some ⟨xb, xof, none⟩) rs → IntsAt w.heap.size W so row) := fun W h q hq => by
                        have hq' : q < row.length := by simpa using hq
                        have hqr : j + 1 + q < rs.length := by omega
                        obtain ⟨b', o', e, h1, h2, h3⟩ := IntsAt.get h (j + 1 + q) hqr
                        simp only [Option.some.injEq, Addr.mk.injEq] at e
                        obtain ⟨rfl, rfl, _⟩ := e
                        have hne : ¬ xc = j + 1 := by omega
                        rw [if_neg hne] at hso
                        refine ⟨_, _, hso.symm, h1, h2, ?_⟩
                        rw [List.getElem_map, show xof + (j + 1) + q = xof + (j + 1 + q) from by omega, h3]
                        congr 2
                        simp only [← hrow, List.getElem_drop]
                      have HRW : Hid (row.length ≤ 4000) := by show _ ≤ _; omega
                      clear hrow hso hrwl
                      generalize hxe : rs[j] = x at *
                      have hgb := (HBB.out wr hbt.out).2
                      obtain ⟨g0, g1, g2, _⟩ := cells_three_z hgb
                      have hgl := (Array.getElem?_eq_some_iff.1 hgb).1
                      clear SKJ hbl hgb
                      go_wp2_with (go_at_call 30; fail)
                      have hA0 : Hid ((wr.alloc (Obj.cells (Array.replicate (n + 1) (Value.bool false)) 4)).heap[wr.heap.size]? = some (.cells (Array.replicate (n + 1) (Value.bool false)) 4 (0, 0))) := heap_alloc_new wr _
                      have hAb : Hid (Below wr.heap.size wr (wr.alloc (Obj.cells (Array.replicate (n + 1) (Value.bool false)) 4))) := (Below.refl _ wr).alloc (Nat.le_refl _) _
                      have HBA : Hid (Below w.heap.size w (wr.alloc (Obj.cells (Array.replicate (n + 1) (Value.bool false)) 4))) := (HBB.out wr hbt.out).1.trans (hAb.out.mono (HBB.out wr hbt.out).1.size)
                      refine Calls.mono (HO8.out _ row so (xc - (j + 1)) HBA.out (ROW.out _ (KI.out.later HBA.out)).size HRW.out) ?_
                      rintro e w8 ⟨vo, vc, rfl, hF, hb8⟩
                      obtain ⟨V, rfl⟩ : ∃ V, V = wr := ⟨wr, rfl⟩
                      have HS1 : Hid (Below V.heap.size V w8) := hAb.out.trans (hb8.out.mono hAb.out.size)
                      have hA8 : Hid (w8.heap[V.heap.size]? = some (.cells ((((Fi.ofG g row).take 0).foldl Nl.tell (List.replicate (n + 1) false)).map Value.bool).toArray 4 (0, 0))) := by
                        show _ = _
                        rw [hb8.out.block _ (Array.getElem?_eq_some_iff.1 hA0.out).1, hA0.out]; simp
                      have HST : Hid (∀ W : World, Below V.heap.size V W → ButL Bs W5 W ∧ RowsAt S (n + 1) Bs s1 W ∧ W.heap[R]? = some (.cells #[.int .i64 (l : Int), .slice (some ⟨xb, xof, none⟩) rs.length xc] 43 (0, 0)) ∧ V.heap.size ≤ W.heap.size) := fun W hW => ⟨hbt.out.trans (ButL.of hW), hR.out.later hW, (hW.block _ hrl).trans hrb.out, hW.size⟩
                      have hrin : ∀ s ∈ row, 0 ≤ s ∧ s < n := fun s hs => hin s (by rw [← ROE.out] at hs; exact List.mem_of_mem_drop hs)
                      have hok : Fi.okG g row = true := by
                        unfold Fi.okG
                        rw [hg, Bool.true_and]
                        exact Fi.syms_iff.2 fun s hs => by have := hrin s hs; omega
                      have FM : Hid (∀ v, v ∈ Fi.ofG g row ↔ ∃ y ∈ Fi.heads (Nl.of g) row, Fi.Beg g.rules (Nl.of g) g.terms.length y v) := fun v => Fo.ofG_mem hok
                      have FIN : Hid (∀ v ∈ Fi.ofG g row, 0 ≤ v ∧ v < (g.terms.length : Int)) := fun v hv => by
                        obtain ⟨y, _, q⟩ := (Fo.ofG_mem hok).1 hv
                        exact q.term
                      have hfl : (Fi.ofG g row).length ≤ g.terms.length := Fo.ofG_short g row
                      have ANI : Hid (Nl.all g row = Nl.allIn (Nl.of g) row) := by show _ = _; simp [Nl.all, hg]
                      have hBsA : ∀ b ∈ Bs, b < V.heap.size := hR.out.lt.2
                      have HAW : Hid (∀ W : World, Below V.heap.size V W → _) := fun W hW => HBB.out W (hbt.out.trans (ButL.of hW))
                      have hA8s := hb8.out.size
                      have hAs := hAb.out.size
                      have hAlt := (Array.getElem?_eq_some_iff.1 hA0.out).1
                      have hxi : (g.terms.length : Int) ≤ x := by omega
                      have hxn : x < (n : Int) := hx.2
                      have PR : Hid (Fo.Rnd g.rules (Nl.of g) g.terms.length n g.names.length ss s1 ch k j) := hP.out
                      clear hA0 hAb HBA hbt hR hrb hP g0 g1 g2 hgl r0 r1 hrl hok hrin
                      generalize Fi.ofG g row = f at *
                      have KF : Hid (∀ W : World, ButL [V.heap.size] w8 W → IntsAt w8.heap.size W vo f) := fun W hW => IntsAt.keep hF.out hW.size fun k o y hk hc => hW.block k hk fun e => by
                        rw [List.mem_singleton] at e
                        rw [e] at hc
                        have := cell_in hA8.out hc
                        simp at this
                      clear hF
                      have HAle : Hid (V.heap.size ≤ w8.heap.size) := HS1.out.size
                      generalize V.heap.size = A at *
                      go_wp2_with fail
                      rw [field_got8]
                      simp only [Result.andThen]
                      rw [Oper.upon_value]
                      go_wp2_with fail
                      go_loopw [14] (fun i wr => ∃ q : Nat, q ≤ f.length ∧ i = .int .i64 q ∧ Hid (wr.heap[A]? = some (.cells (((f.take q).foldl Nl.tell (List.replicate (n + 1) false)).map Value.bool).toArray 4 (0, 0))) ∧ Hid (ButL [A] w8 wr)) (fun i _ => f.length - (intOf i).toNat)
                      case atStart => exact ⟨0, Nat.zero_le _, rfl, hA8, ButL.refl _ _⟩
                      case round =>
                        obtain ⟨q, hq, rfl, hAq, hbq⟩ := hrel
                        by_cases hql : q < f.length
                        · have hqi : (q : Int) < (f.length : Int) := by omega
                          obtain ⟨vb, vof, rfl, _, _, v0⟩ := IntsAt.get (KF.out wr hbq.out) q hql
                          have hv := FIN.out _ (List.getElem_mem hql)
                          have ST : Hid _ := Fi.foldTell_step (List.replicate (n + 1) false) f q hql
                          have hml : ((f.take q).foldl Nl.tell (List.replicate (n + 1) false)).length = n + 1 := by rw [Fi.foldTell_len, List.length_replicate]
                          generalize f[q] = x9 at *
                          obtain ⟨m, rfl⟩ : ∃ m : Nat, x9 = m := ⟨x9.toNat, by omega⟩
                          have hmn : m < n + 1 := by omega
                          have hmI : (m : Int) < (n : Int) + 1 := by omega
                          have f0 : wr.frozen? ⟨A, m, none⟩ = false := by simp [World.frozen?, hAq.out]
                          have c0 : wr.cell? ⟨A, m, none⟩ = some (.bool (((f.take q).foldl Nl.tell (List.replicate (n + 1) false))[m]'(by omega))) := (bools_cell hAq.out m (by omega)).1
                          have hHl := (Array.getElem?_eq_some_iff.1 hAq.out).1
                          have N1 : Hid ((wr.setCell ⟨A, m, none⟩ (.bool true)).heap[A]? = some (.cells (((f.take (q + 1)).foldl Nl.tell (List.replicate (n + 1) false)).map Value.bool).toArray 4 (0, 0))) := by
                            show _ = _
                            rw [ST.out]
                            have := bools_set hAq.out m true
                            simpa [Nl.tell] using this
                          have N2 : Hid (ButL [A] w8 (wr.setCell ⟨A, m, none⟩ (.bool true))) := hbq.out.setCell (List.mem_cons_self ..) _ _
                          clear hAq hbq ST
                          go_wp2_with fail
                          go_roundw
                          case rel => exact ⟨q + 1, by omega, by go_num, N1, N2⟩
                          case measure => simp [intOf]; omega
                        · obtain rfl : q = f.length := by omega
                          have hqi : ¬ (f.length : Int) < (f.length : Int) := by omega
                          rw [List.take_length] at hAq
                          have AT : Hid (∀ v, Nl.isAt (f.foldl Nl.tell (List.replicate (n + 1) false)) v = true ↔ v ∈ f) := fun v => by
                            rw [Fi.foldTell_at (n := n + 1) (by simp) (fun z hz => by have := FIN.out z hz; omega)]
                            rw [Fi.none_at]; simp
                          have AL : Hid ((f.foldl Nl.tell (List.replicate (n + 1) false)).length = n + 1) := by show _ = _; rw [Fi.foldTell_len, List.length_replicate]
                          have HB1 : Hid (Below A V wr) := HS1.out.trans (hbq.out.below (fun z hz => by rw [List.mem_singleton] at hz; omega) HAle.out)
                          have hAd : Hid (wr.heap[A]? = some (.cells ((f.foldl Nl.tell (List.replicate (n + 1) false)).map Value.bool).toArray 4 (0, 0))) := hAq
                          have FAS : Hid (∀ v, Nl.isAt (f.foldl Nl.tell (List.replicate (n + 1) false)) v = true ↔ ∃ y ∈ Fi.heads (Nl.of g) row, Fi.Beg g.rules (Nl.of g) g.terms.length y v) := fun v => (AT.out v).trans (FM.out v)
                          clear hAq AT hbq KF HS1
                          generalize f.foldl Nl.tell (List.replicate (n + 1) false) = ad at *
                          obtain ⟨y, hy⟩ : ∃ y, Nl.all g row = y := ⟨_, rfl⟩
                          have HY : Hid (Nl.all g row = y) := hy
                          obtain ⟨lm, hlm⟩ : ∃ lm : Nat, (l : Int) - (g.terms.length : Int) = lm := ⟨((l : Int) - (g.terms.length : Int)).toNat, by omega⟩
                          obtain ⟨xm, hxm⟩ : ∃ xm : Nat, x - (g.terms.length : Int) = xm := ⟨(x - (g.terms.length : Int)).toNat, by omega⟩
                          have hlN : lm < g.names.length := by omega
                          have hxN : xm < g.names.length := by omega
                          have hBlm : lm < Bs.length := by have := HBl.out; omega
                          have hBm : xm < Bs.length := by have := HBl.out; omega
                          have hwl : IntKind.wrap .i64 ((l : Int) - (g.terms.length : Int)) = (lm : Int) := by rw [hlm, IntKind.wrap_i64]; omega
                          have hwx : IntKind.wrap .i64 (x - (g.terms.length : Int)) = (xm : Int) := by rw [hxm, IntKind.wrap_i64]; omega
                          have ENX : Hid (∀ (s2 : List (List Bool)) (ch2 : Bool) (add : List Bool), add.length = n + 1 → (∀ v, Fo.Asks g.rules (Nl.of g) g.terms.length s1 (lm : Int) row v → Nl.isAt add v = true) → Fo.Mrg g.rules (Nl.of g) g.terms.length n g.names.length ss s1 ch add (xm : Int) s2 ch2 (n + 1) → Fo.Rnd g.rules (Nl.of g) g.terms.length n g.names.length ss s2 ch2 k (j + 1)) := fun s2 ch2 add => by
                            have := ENJ.out s2 ch2 add
                            rw [ROE.out, hlm, hxm] at this
                            exact this
                          have FOX : Hid (∀ v, Fo.Asks g.rules (Nl.of g) g.terms.length s1 (lm : Int) row v → Fo.Fol g.rules (Nl.of g) g.terms.length n (xm : Int) v) := by
                            have := FOJ.out hxi
                            rw [ROE.out, hlm, hxm] at this
                            exact this
                          obtain ⟨bv, hbv⟩ : ∃ bv, (if y = true then Fo.orRow ad s1 (lm : Int) else ad) = bv := ⟨_, rfl⟩
                          have BV : Hid (bv.length = n + 1) := by
                            show _ = _
                            rw [← hbv]; split
                            · rw [Fo.orRow_len, AL.out]
                            · exact AL.out
                          have BT : Hid (∀ (t : Nat) (h1 : t < ad.length) (h2 : t < bv.length), y = true → bv[t]'h2 = (ad[t]'h1 || Fi.has s1 (lm : Int) (t : Int))) := fun t h1 h2 e => by
                            subst hbv
                            simp only [e, if_true]
                            exact Fo.orRow_get t h1 _
                          have BN : Hid (y = false → bv = ad) := fun e => by rw [← hbv, e]; rfl
                          have BA : Hid (∀ v, Nl.isAt bv v = true ↔ Fo.Asks g.rules (Nl.of g) g.terms.length s1 (lm : Int) row v) := fun v => by
                            unfold Fo.Asks
                            rw [← FAS.out v, ← ANI.out, HY.out, ← hbv]
                            cases y
                            · simp
                            · simp only [if_true, true_and]
                              exact Fo.orRow_at (by rw [AL.out]; exact PR.out.shape)
                          have A15 : Hid (wr.heap[A]? = some (.cells ((bv.take 0 ++ ad.drop 0).map Value.bool).toArray 4 (0, 0))) := hAd
                          clear hbv hy FAS ENJ FOJ ANI HS1 hAd FM FIN
                          go_wp2_with fail
                          go_loopw [15] (fun i wr => ∃ q : Nat, q ≤ n + 1 ∧ i = .int .i64 q ∧ Hid (y = false → q = 0) ∧ Hid (wr.heap[A]? = some (.cells ((bv.take q ++ ad.drop q).map Value.bool).toArray 4 (0, 0))) ∧ Hid (Below A V wr)) (fun i _ => n + 1 - (intOf i).toNat)
                          case atStart => exact ⟨0, Nat.zero_le _, rfl, fun _ => rfl, A15, HB1⟩
                          case round =>
                            obtain ⟨q, hq, rfl, hq0, hAq, hbq⟩ := hrel
                            clear A15 HB1
                            have hHAW := HAW.out wr hbq.out
                            have HBw : Hid (Below w.heap.size w wr) := hHAW.1
                            obtain ⟨g0, g1, g2, _⟩ := cells_three_z hHAW.2
                            have hgl := (Array.getElem?_eq_some_iff.1 hHAW.2).1
                            clear hHAW
                            by_cases hqn : q ≤ n
                            · have hqi : (q : Int) ≤ (n : Int) := by omega
                              have HCA : Hid _ := HA6.out y wr row so (xc - (j + 1)) HBw.out (ROW.out wr (KI.out.later HBw.out)).size HRW.out HY.out
                              have hAsz := (HST.out wr hbq.out).2.2.2
                              go_wp2_with (go_at_call 31; fail)
                              refine Calls.mono HCA.out ?_
                              rintro e w10 ⟨rfl, hb10⟩
                              have HBm : Hid (Below A V w10) := hbq.out.trans (hb10.mono hAsz)
                              have hAk := (Array.getElem?_eq_some_iff.1 hAq.out).1
                              have hA10 : Hid (w10.heap[A]? = some (.cells ((bv.take q ++ ad.drop q).map Value.bool).toArray 4 (0, 0))) := (hb10.block _ hAk).trans hAq.out
                              clear g0 g1 g2 hgl HCA hb10 hAq hbq HBw hAk hAsz
                              cases y
                              · have hAm : Hid (w10.heap[A]? = some (.cells (bv.map Value.bool).toArray 4 (0, 0))) := by
                                  have := hA10.out
                                  rw [BN.out rfl, List.take_append_drop] at this
                                  rw [BN.out rfl]; exact this
                                clear hA10 hq0
                                have hm0 := HST.out w10 HBm.out
                                have HBT : Hid (ButL Bs W5 w10) := hm0.1
                                have HRM : Hid (RowsAt S (n + 1) Bs s1 w10) := hm0.2.1
                                have HRB : Hid (w10.heap[R]? = some (.cells #[.int .i64 (l : Int), .slice (some ⟨xb, xof, none⟩) rs.length xc] 43 (0, 0))) := hm0.2.2.1
                                have M0 : Hid (Fo.Mrg g.rules (Nl.of g) g.terms.length n g.names.length ss s1 ch bv ((xm : Nat) : Int) s1 ch 0) := Fo.Mrg.begin PR.out bv _
                                clear hm0 HBm HST HAW
                                go_wp2_with fail
                                go_loopw [7, 16] (fun c i wr => ∃ (c2 : Bool) (q : Nat) (s2 : List (List Bool)), q ≤ n + 1 ∧ c = .bool c2 ∧ i = .int .i64 q ∧ Hid (ButL Bs W5 wr) ∧ Hid (RowsAt S (n + 1) Bs s2 wr) ∧ Hid (wr.heap[R]? = some (.cells #[.int .i64 (l : Int), .slice (some ⟨xb, xof, none⟩) rs.length xc] 43 (0, 0))) ∧ Hid (wr.heap[A]? = some (.cells (bv.map Value.bool).toArray 4 (0, 0))) ∧ Hid (Fo.Mrg g.rules (Nl.of g) g.terms.length n g.names.length ss s1 ch bv ((xm : Nat) : Int) s2 c2 q)) (fun _ i _ => n + 1 - (intOf i).toNat)
                                case atStart => exact ⟨ch, 0, s1, Nat.zero_le _, rfl, rfl, HBT, HRM, HRB, hAm, M0⟩
                                case round =>
                                  obtain ⟨c2, q, s2, hq, rfl, rfl, hbt, hR, hrb, hab, hM⟩ := hrel
                                  clear HBT HRM HRB hAm M0
                                  by_cases hqn : q ≤ n
                                  · have hqi : (q : Int) ≤ (n : Int) := by omega
                                    have hqI : (q : Int) < (n : Int) + 1 := by omega
                                    have hqb : q < bv.length := by have := BV.out; omega
                                    have c0 := (bools_cell hab.out q hqb).1
                                    have hAl := (Array.getElem?_eq_some_iff.1 hab.out).1
                                    obtain ⟨r0, r1, _⟩ := cells_two_z hrb.out
                                    have hrl := (Array.getElem?_eq_some_iff.1 hrb.out).1
                                    have x0 := X0.out wr hbt.out
                                    have hSl := hR.out.lt.1
                                    have d0 := hR.out.head xm hBm
                                    obtain ⟨d1, f1⟩ := hR.out.cell xm q hBm (by omega)
                                    have hbm := hR.out.lt.2 _ (List.getElem_mem hBm)
                                    have RP : Hid _ := hR.out.put xm q hBm
                                    have BP : Hid (ButL Bs W5 (wr.setCell ⟨Bs[xm], q, none⟩ (.bool true))) := hbt.out.setCell (List.getElem_mem hBm) _ _
                                    have hRn : R ∉ Bs := fun e => by
                                      obtain ⟨i, hi, e2⟩ := List.getElem_of_mem e
                                      have h1 := hR.out.row i hi
                                      rw [e2, hrb.out] at h1
                                      exact absurd (Obj.cells.inj (Option.some.inj h1)).2.1 (by decide)
                                    have hAn : A ≠ Bs[xm] := fun e => by have := hBsA _ (List.getElem_mem hBm); omega
                                    have RBP : Hid ((wr.setCell ⟨Bs[xm], q, none⟩ (.bool true)).heap[R]? = some (.cells #[.int .i64 (l : Int), .slice (some ⟨xb, xof, none⟩) rs.length xc] 43 (0, 0))) := (Below.heap_setCell _ _ _ _ (fun e => hRn (by show R ∈ Bs; rw [show R = Bs[xm] from e]; exact List.getElem_mem hBm))).trans hrb.out
                                    have ABP : Hid ((wr.setCell ⟨Bs[xm], q, none⟩ (.bool true)).heap[A]? = some (.cells (bv.map Value.bool).toArray 4 (0, 0))) := (Below.heap_setCell _ _ _ _ hAn).trans hab.out
                                    have hbq : Nl.isAt bv (q : Int) = bv[q] := by rw [Nl.isAt_get (by omega) (by simpa using hqb)]; simp
                                    have HE1 : Hid ((Nl.isAt bv (q : Int) = true → Fi.has s2 (xm : Int) (q : Int) = true) → Fo.Mrg g.rules (Nl.of g) g.terms.length n g.names.length ss s1 ch bv (xm : Int) s2 c2 (q + 1)) := fun e => hM.out.same e
                                    have HT1 : Hid (Nl.isAt bv (q : Int) = true → Fi.has s2 (xm : Int) (q : Int) = false → Fo.Mrg g.rules (Nl.of g) g.terms.length n g.names.length ss s1 ch bv (xm : Int) (Fi.put s2 xm q) true (q + 1)) := fun a b => Fo.Mrg.tell PR.out hM.out ⟨by omega, by omega⟩ (by omega) (FOX.out _ ((BA.out _).1 a)) b
                                    rw [hbq] at HE1 HT1
                                    clear hRn hAn hbq
                                    generalize bv[q] = bq at *
                                    generalize Bs[xm] = Bm at *
                                    cases bq
                                    · have N1 : Hid _ := HE1.out (fun e => by cases e)
                                      clear HE1 HT1 hM RP BP RBP ABP
                                      go_wp2_with fail
                                      go_roundw
                                      case rel => exact ⟨c2, q + 1, s2, by omega, rfl, by go_num, hbt, hR, hrb, hab, N1⟩
                                      case measure => simp [intOf]; omega
                                    · cases h2 : Fi.has s2 (xm : Int) (q : Int)
                                      · rw [h2] at d1
                                        have N1 : Hid _ := HT1.out rfl h2
                                        clear HE1 HT1 hM h2 hR hbt hrb hab
                                        go_wp2_with fail
                                        go_roundw
                                        case rel => exact ⟨true, q + 1, _, by omega, rfl, by go_num, BP, RP, RBP, ABP, N1⟩
                                        case measure => simp [intOf]; omega
                                      · rw [h2] at d1
                                        have N1 : Hid _ := HE1.out (fun _ => h2)
                                        clear HE1 HT1 hM h2 RP BP RBP ABP
                                        go_wp2_with fail
                                        go_roundw
                                        case rel => exact ⟨c2, q + 1, s2, by omega, rfl, by go_num, hbt, hR, hrb, hab, N1⟩
                                        case measure => simp [intOf]; omega
                                  · obtain rfl : q = n + 1 := by omega
                                    have hqi : ¬ ((n + 1 : Nat) : Int) ≤ (n : Int) := by omega
                                    have N1 : Hid _ := ENX.out s2 c2 bv BV.out (fun v a => (BA.out v).2 a) hM.out
                                    clear hM
                                    go_wp2_with fail
                                    go_roundw
                                    case rel => exact ⟨c2, j + 1, s2, by omega, rfl, by go_num, hbt, hR, hrb, N1⟩
                                    case measure => simp [intOf]; omega
                              · have hm0 := HST.out w10 HBm.out
                                have HRM : Hid (RowsAt S (n + 1) Bs s1 w10) := hm0.2.1
                                have HRB : Hid (w10.heap[R]? = some (.cells #[.int .i64 (l : Int), .slice (some ⟨xb, xof, none⟩) rs.length xc] 43 (0, 0))) := hm0.2.2.1
                                obtain ⟨r0, r1, _⟩ := cells_two_z HRB.out
                                have hrl := (Array.getElem?_eq_some_iff.1 HRB.out).1
                                have hSl := HRM.out.lt.1
                                have d0 := HRM.out.head lm hBlm
                                obtain ⟨d1, _⟩ := HRM.out.cell lm q hBlm (by omega)
                                have hbm := HRM.out.lt.2 _ (List.getElem_mem hBlm)
                                have hAl := (Array.getElem?_eq_some_iff.1 hA10.out).1
                                have hqI : (q : Int) < (n : Int) + 1 := by omega
                                have htb : q < bv.length := by have := BV.out; omega
                                have hta : q < ad.length := by have := AL.out; omega
                                obtain ⟨hmx, emx⟩ := Fi.mix_get (a := ad) (b := bv) (by rw [AL.out, BV.out]) q htb
                                have c0 : w10.cell? ⟨A, q, none⟩ = some (.bool (ad[q]'hta)) := by
                                  rw [← emx]
                                  exact (bools_cell hA10.out q hmx).1
                                have f0 : w10.frozen? ⟨A, q, none⟩ = false := by simp [World.frozen?, hA10.out]
                                have hb := BT.out q hta htb rfl
                                have N1 : Hid ((w10.setCell ⟨A, q, none⟩ (.bool (bv[q]'htb))).heap[A]? = some (.cells ((bv.take (q + 1) ++ ad.drop (q + 1)).map Value.bool).toArray 4 (0, 0))) := by
                                  have := bools_set hA10.out q (bv[q]'htb)
                                  rw [Fi.mix_set (by rw [AL.out, BV.out]) q htb] at this
                                  exact this
                                have N2 : Hid (Below A V (w10.setCell ⟨A, q, none⟩ (.bool (bv[q]'htb)))) := HBm.out.setCell (Nat.le_refl _) _
                                have N3 : Hid (true = false → q + 1 = 0) := fun e => by cases e
                                clear hA10 emx hmx HRM HRB hm0 HBm hq0
                                rw [hb] at N1 N2
                                clear hb
                                generalize ad[q]'hta = ya at *
                                generalize Bs[lm] = Bl at *
                                generalize Fi.has s1 (lm : Int) (q : Int) = za at *
                                cases ya
                                · simp only [Bool.false_or] at N1 N2
                                  go_wp2_with fail
                                  go_roundw
                                  case rel => exact ⟨q + 1, by omega, by go_num, N3, N1, N2⟩
                                  case measure => simp [intOf]; omega
                                · simp only [Bool.true_or] at N1 N2
                                  go_wp2_with fail
                                  go_roundw
                                  case rel => exact ⟨q + 1, by omega, by go_num, N3, N1, N2⟩
                                  case measure => simp [intOf]; omega
                            · obtain rfl : q = n + 1 := by omega
                              have hqi : ¬ ((n + 1 : Nat) : Int) ≤ (n : Int) := by omega
                              have HBm : Hid (Below A V wr) := hbq
                              have hAm : Hid (wr.heap[A]? = some (.cells (bv.map Value.bool).toArray 4 (0, 0))) := by
                                have := hAq.out
                                rw [List.take_of_length_le (by rw [BV.out]; exact Nat.le_refl _), List.drop_of_length_le (by rw [AL.out]; exact Nat.le_refl _), List.append_nil] at this
                                exact this
                              clear hAq hbq hq0 g0 g1 g2 hgl HBw
                              obtain ⟨WM, rfl⟩ : ∃ WM, WM = wr := ⟨wr, rfl⟩
                              have hm0 := HST.out WM HBm.out
                              have HBT : Hid (ButL Bs W5 WM) := hm0.1
                              have HRM : Hid (RowsAt S (n + 1) Bs s1 WM) := hm0.2.1
                              have HRB : Hid (WM.heap[R]? = some (.cells #[.int .i64 (l : Int), .slice (some ⟨xb, xof, none⟩) rs.length xc] 43 (0, 0))) := hm0.2.2.1
                              have M0 : Hid (Fo.Mrg g.rules (Nl.of g) g.terms.length n g.names.length ss s1 ch bv ((xm : Nat) : Int) s1 ch 0) := Fo.Mrg.begin PR.out bv _
                              clear hm0 HBm HST HAW
                              go_wp2_with fail
                              go_loopw [7, 16] (fun c i wr => ∃ (c2 : Bool) (q : Nat) (s2 : List (List Bool)), q ≤ n + 1 ∧ c = .bool c2 ∧ i = .int .i64 q ∧ Hid (ButL Bs W5 wr) ∧ Hid (RowsAt S (n + 1) Bs s2 wr) ∧ Hid (wr.heap[R]? = some (.cells #[.int .i64 (l : Int), .slice (some ⟨xb, xof, none⟩) rs.length xc] 43 (0, 0))) ∧ Hid (wr.heap[A]? = some (.cells (bv.map Value.bool).toArray 4 (0, 0))) ∧ Hid (Fo.Mrg g.rules (Nl.of g) g.terms.length n g.names.length ss s1 ch bv ((xm : Nat) : Int) s2 c2 q)) (fun _ i _ => n + 1 - (intOf i).toNat)
                              case atStart => exact ⟨ch, 0, s1, Nat.zero_le _, rfl, rfl, HBT, HRM, HRB, hAm, M0⟩
                              case round =>
                                obtain ⟨c2, q, s2, hq, rfl, rfl, hbt, hR, hrb, hab, hM⟩ := hrel
                                clear HBT HRM HRB hAm M0
                                by_cases hqn : q ≤ n
                                · have hqi : (q : Int) ≤ (n : Int) := by omega
                                  have hqI : (q : Int) < (n : Int) + 1 := by omega
                                  have hqb : q < bv.length := by have := BV.out; omega
                                  have c0 := (bools_cell hab.out q hqb).1
                                  have hAl := (Array.getElem?_eq_some_iff.1 hab.out).1
                                  obtain ⟨r0, r1, _⟩ := cells_two_z hrb.out
                                  have hrl := (Array.getElem?_eq_some_iff.1 hrb.out).1
                                  have x0 := X0.out wr hbt.out
                                  have hSl := hR.out.lt.1
                                  have d0 := hR.out.head xm hBm
                                  obtain ⟨d1, f1⟩ := hR.out.cell xm q hBm (by omega)
                                  have hbm := hR.out.lt.2 _ (List.getElem_mem hBm)
                                  have RP : Hid _ := hR.out.put xm q hBm
                                  have BP : Hid (ButL Bs W5 (wr.setCell ⟨Bs[xm], q, none⟩ (.bool true))) := hbt.out.setCell (List.getElem_mem hBm) _ _
                                  have hRn : R ∉ Bs := fun e => by
                                    obtain ⟨i, hi, e2⟩ := List.getElem_of_mem e
                                    have h1 := hR.out.row i hi
                                    rw [e2, hrb.out] at h1
                                    exact absurd (Obj.cells.inj (Option.some.inj h1)).2.1 (by decide)
                                  have hAn : A ≠ Bs[xm] := fun e => by have := hBsA _ (List.getElem_mem hBm); omega
                                  have RBP : Hid ((wr.setCell ⟨Bs[xm], q, none⟩ (.bool true)).heap[R]? = some (.cells #[.int .i64 (l : Int), .slice (some ⟨xb, xof, none⟩) rs.length xc] 43 (0, 0))) := (Below.heap_setCell _ _ _ _ (fun e => hRn (by show R ∈ Bs; rw [show R = Bs[xm] from e]; exact List.getElem_mem hBm))).trans hrb.out
                                  have ABP : Hid ((wr.setCell ⟨Bs[xm], q, none⟩ (.bool true)).heap[A]? = some (.cells (bv.map Value.bool).toArray 4 (0, 0))) := (Below.heap_setCell _ _ _ _ hAn).trans hab.out
                                  have hbq : Nl.isAt bv (q : Int) = bv[q] := by rw [Nl.isAt_get (by omega) (by simpa using hqb)]; simp
                                  have HE1 : Hid ((Nl.isAt bv (q : Int) = true → Fi.has s2 (xm : Int) (q : Int) = true) → Fo.Mrg g.rules (Nl.of g) g.terms.length n g.names.length ss s1 ch bv (xm : Int) s2 c2 (q + 1)) := fun e => hM.out.same e
                                  have HT1 : Hid (Nl.isAt bv (q : Int) = true → Fi.has s2 (xm : Int) (q : Int) = false → Fo.Mrg g.rules (Nl.of g) g.terms.length n g.names.length ss s1 ch bv (xm : Int) (Fi.put s2 xm q) true (q + 1)) := fun a b => Fo.Mrg.tell PR.out hM.out ⟨by omega, by omega⟩ (by omega) (FOX.out _ ((BA.out _).1 a)) b
                                  rw [hbq] at HE1 HT1
                                  clear hRn hAn hbq
                                  generalize bv[q] = bq at *
                                  generalize Bs[xm] = Bm at *
                                  cases bq
                                  · have N1 : Hid _ := HE1.out (fun e => by cases e)
                                    clear HE1 HT1 hM RP BP RBP ABP
                                    go_wp2_with fail
                                    go_roundw
                                    case rel => exact ⟨c2, q + 1, s2, by omega, rfl, by go_num, hbt, hR, hrb, hab, N1⟩
                                    case measure => simp [intOf]; omega
                                  · cases h2 : Fi.has s2 (xm : Int) (q : Int)
                                    · rw [h2] at d1
                                      have N1 : Hid _ := HT1.out rfl h2
                                      clear HE1 HT1 hM h2 hR hbt hrb hab
                                      go_wp2_with fail
                                      go_roundw
                                      case rel => exact ⟨true, q + 1, _, by omega, rfl, by go_num, BP, RP, RBP, ABP, N1⟩
                                      case measure => simp [intOf]; omega
                                    · rw [h2] at d1
                                      have N1 : Hid _ := HE1.out (fun _ => h2)
                                      clear HE1 HT1 hM h2 RP BP RBP ABP
                                      go_wp2_with fail
                                      go_roundw
                                      case rel => exact ⟨c2, q + 1, s2, by omega, rfl, by go_num, hbt, hR, hrb, hab, N1⟩
                                      case measure => simp [intOf]; omega
                                · obtain rfl : q = n + 1 := by omega
                                  have hqi : ¬ ((n + 1 : Nat) : Int) ≤ (n : Int) := by omega
                                  have N1 : Hid _ := ENX.out s2 c2 bv BV.out (fun v a => (BA.out v).2 a) hM.out
                                  clear hM
                                  go_wp2_with fail
                                  go_roundw
                                  case rel => exact ⟨c2, j + 1, s2, by omega, rfl, by go_num, hbt, hR, hrb, N1⟩
                                  case measure => simp [intOf]; omega
                  · obtain rfl : j = rs.length := by omega
                    have hji : ¬ (rs.length : Int) < (rs.length : Int) := by omega
                    have N1 : Hid _ := HRU.out s1 ch hP.out
                    clear hP
                    go_wp2_with fail
                    go_roundw
                    case rel => exact ⟨ch, k + 1, s1, by omega, rfl, by go_num, hbt, hR, N1⟩
                    case measure => simp [intOf]; omega
              · obtain rfl : k = g.rules.length := by omega
                have hki : ¬ (g.rules.length : Int) < (g.rules.length : Int) := by omega
                have hz := hP.out.shape
                have hle := Fi.cnt2_le hz
                have HM1 : Hid (tmeas g.names.length (n + 1) S (.bool ch) wr < MO) := by
                  show _ < _
                  rw [← HM0.out]
                  unfold tmeas
                  rw [hR.out.read]
                  cases ch
                  · rw [(hP.out.no rfl).1]; simp
                  · have := hP.out.yes rfl
                    simp only
                    omega
                have D0 : Hid (ch = false → s1 = Fo.tab (Fo.Fol g.rules (Nl.of g) g.terms.length n) g.names.length (n + 1)) := fun e => by subst e; exact hP.out.done
                have S0 : Hid _ := hP.out.shape
                have S1 : Hid _ := hP.out.sound
                have S2 : Hid _ := hP.out.start
                clear hP hz hle
                go_wp2_with fail
                go_roundw
                case rel => exact ⟨ch, s1, rfl, hbt, hR, S0, S1, S2, D0⟩
                case measure => exact Nat.lt_of_lt_of_eq HM1.out HMO.out.symm
end Go.Proofs.YtdocbgfpnaiijaaGreat
