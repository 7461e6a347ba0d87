/-
  The law ReadBack, walked: it returns true, of any alternatives.
-/
import Derived.Test.YtjcgnablfhkmoaaReadBuild
namespace Go.Proofs.Ytjcgnablfhkmoaa
open Go.RowKit

set_option maxRecDepth 100000 in
set_option maxHeartbeats 20000000 in
theorem readBack_walk (ao : Option Addr) (c : Nat) (xs : List Rd.Al) (w : World) (hA : AltsIn w ao xs) (hc : xs.length ≤ c ∧ c ≤ maxLen) :
    Calls Try.prog 4 #[.slice ao xs.length c] w fun e w' => e = .returned (.bool true) ∧ Below w.heap.size w w' := by
  have hlm : xs.length ≤ maxLen := Nat.le_trans hc.1 hc.2
  have HA : Hid (AltsIn w ao xs) := hA
  have hlm' := hlm
  unfold maxLen at hlm'
  clear hA
  by_cases h0 : xs.length = 0
  · have h0d : ((xs.length : Int) == 0) = true := by simp [h0]
    go_enter Try.func4, Try.ntmps4
    go_wp2_with (first | (go_at_call 10; refine (rwakes_any _).mono ?_; rintro e w1 ⟨rfl, hb⟩))
    go_ret
    exact ⟨rfl, hb⟩
  have h0d : ((xs.length : Int) == 0) = false := beq_eq_false_iff_ne.2 (by omega)
  by_cases h60 : 60 < xs.length
  · have h60d : (60 : Int) < (xs.length : Int) := by omega
    go_enter Try.func4, Try.ntmps4
    go_wp2_with (first | (go_at_call 10; refine (rwakes_any _).mono ?_; rintro e w1 ⟨rfl, hb⟩))
    go_ret
    exact ⟨rfl, hb⟩
  have h60d : (xs.length : Int) ≤ 60 := by omega
  go_enter Try.func4, Try.ntmps4
  go_wp2_with fail
  go_loopw [3, 4, 5] (fun tv wv i wr => ∃ (k : Nat) (T : List Rd.Tk) (A : List Rd.Al) (to wo : Option Addr) (tc wc : Nat), k ≤ xs.length ∧ i = .int .i64 k ∧ tv = .slice to T.length tc ∧ wv = .slice wo A.length wc ∧
      Hid (T = (xs.take k).flatMap Rd.defT) ∧ Hid (A = (xs.take k).map Rd.wantA) ∧ Hid (A.length = k) ∧ T.length ≤ k * 11 ∧
      Hid (BInv w wr (.slice to T.length tc) (.slice wo A.length wc) T A) ∧ Hid (∀ x ∈ xs.take k, x.2.length ≤ 8 ∧ x.1.text.size ≤ 500 ∧ ∀ t ∈ x.2, t.text.size ≤ 500)) (fun _ _ i _ => xs.length - (intOf i).toNat)
  case atStart => exact ⟨0, [], [], none, none, 0, 0, Nat.zero_le _, rfl, rfl, rfl, rfl, rfl, rfl, Nat.zero_le _, BInv.start w, fun x hx => by simp at hx⟩
  case round =>
    obtain ⟨k, T, A, to, wo, tc, wc, hk, rfl, rfl, rfl, hT, hA, hAl, hTl, hinv, hgood⟩ := hrel
    by_cases hlt : k < xs.length
    · obtain ⟨b, o, ro, rc, rfl, hbw, a0, a1, a2, a3, at4, hrc, hlx, htx⟩ := HA.out k hlt
      have HTK : Hid (xs.take (k + 1) = xs.take k ++ [xs[k]]) := by show _ = _; rw [List.take_add_one, List.getElem?_eq_getElem hlt]; rfl
      generalize xs[k] = y at *
      obtain ⟨⟨lk, lx, lp⟩, r⟩ := y
      simp only at a0 a1 a2 a3 at4 hrc hlx htx HTK
      have hrm : r.length ≤ maxLen := Nat.le_trans hrc.1 hrc.2
      have hrm' := hrm
      have hlx' := hlx
      unfold maxLen at hrm' hlx'
      have hbr := hinv.out.below
      have A4 : Hid (TksAt wr.heap.size wr ro r) := (at4.later hbr).size
      have A4w : Hid (TksAt w.heap.size w ro r) := at4
      have A3w : Hid (w.cell? ⟨b, o + k * 4 + 3, none⟩ = some (.slice ro r.length rc)) := a3
      have HTX : Hid (∀ t ∈ r, t.text.size ≤ maxLen) := htx
      replace a0 := cell_later hbr a0
      replace a1 := cell_later hbr a1
      replace a2 := cell_later hbr a2
      replace a3 := cell_later hbr a3
      have HBR : Hid (Below w.heap.size w wr) := hbr
      have hsz := hbr.size
      clear at4 htx hbr
      by_cases h8 : 8 < r.length
      · have h8d : (8 : Int) < (r.length : Int) := by omega
        go_wp2_with (first | (go_at_call 10; refine (rwakes_any _).mono ?_; rintro e w1 ⟨rfl, hb⟩))
        go_ret
        exact ⟨rfl, HBR.out.trans (hb.mono HBR.out.size)⟩
      have h8d : decide ((8 : Int) < (r.length : Int)) = false := by simp; omega
      cases hf : fair r
      · go_wp2_with (first | (go_at_call 9; refine (fair_is _ _ _ _ _ hrm HTX.out A4.out hf).mono ?_; rintro e w1 ⟨rfl, rfl⟩) | (go_at_call 10; refine (rwakes_any _).mono ?_; rintro e w1 ⟨rfl, hb⟩))
        go_ret
        exact ⟨rfl, HBR.out.trans (hb.mono HBR.out.size)⟩
      by_cases h5 : 500 < lx.size
      · have h5d : (500 : Int) < (lx.size : Int) := by omega
        go_wp2_with (first | (go_at_call 9; refine (fair_is _ _ _ _ _ hrm HTX.out A4.out hf).mono ?_; rintro e w1 ⟨rfl, rfl⟩) | (go_at_call 10; refine (rwakes_any _).mono ?_; rintro e w1 ⟨rfl, hb⟩))
        go_ret
        exact ⟨rfl, HBR.out.trans (hb.mono HBR.out.size)⟩
      have h5d : decide ((500 : Int) < (lx.size : Int)) = false := by simp; omega
      have HCB : Hid (CInv w wr (wr.alloc (.cells #[.int .i64 1, .string lx, .int .i64 lp, .slice none 0 0] 40)) (.slice to T.length tc) wr.heap.size ⟨1, lx, lp⟩ (.slice to T.length tc) (.slice none 0 0) T []) := CInv.begin hinv.out ⟨1, lx, lp⟩
      go_wp2_with (first | (go_at_call 9; refine (fair_is _ _ _ _ _ hrm HTX.out A4.out hf).mono ?_; rintro e w1 ⟨rfl, rfl⟩) | (at_builtin; refine wpList_append_tka (by rfl) _ _ rfl w.heap.size (.slice to T.length tc) T.length (tksCells T) rfl (HCB.out.t.alloc _) ⟨wr.heap.size + 1, 0, none⟩ 2 2 (tksCells [⟨1, lx, lp⟩, Rd.isT]) rfl rfl ?c1 ?c2 (by decide) ?c3 ?c4 ?_))
      case c1 =>
        have := World.news_of_block (cs := #[.int .i64 1, .string lx, .int .i64 lp, .int .i64 3, .string ⟨#[]⟩, .int .i64 0]) (t := 38) (fr := (0, 0)) (heap_alloc_new (wr.alloc (Obj.cells #[Value.int IntKind.i64 1, Value.string lx, Value.int IntKind.i64 lp, Value.slice none 0 0] 40)) (.cells #[.int .i64 1, .string lx, .int .i64 lp, .int .i64 3, .string ⟨#[]⟩, .int .i64 0] 38))
        simp at this
        exact this
      case c2 => exact tksCells_one _
      case c3 => omega
      case c4 => simp; omega
      intro g1 cap1 w1 hown1 hgrow1 hat1
      have HC1 : Hid (CInv w wr w1 (.slice to T.length tc) wr.heap.size ⟨1, lx, lp⟩ (.slice (some ⟨g1, 0, none⟩) (T.length + 2) cap1) (.slice none 0 0) (T ++ [⟨1, lx, lp⟩, Rd.isT]) []) :=
        (HCB.out.later ((Below.refl _ _).alloc (Nat.le_refl _) _)).pushT [⟨1, lx, lp⟩, Rd.isT] hown1 (by simp) hgrow1 (by simpa using hat1)
      clear hown1 hgrow1 hat1 HCB
      obtain ⟨p0, p1, p2, p3, pz0, pz1, pz2, pz3⟩ := cells_four HC1.out.blk
      have hlt1 := HC1.out.lt
      clear p0 p1 p2 p3 pz0 pz1 pz2 pz3 hlt1
      have HBW1 : Hid (Below w.heap.size w w1) := HBR.out.trans HC1.out.below
      go_wp2_with fail
      obtain ⟨wo1, rfl⟩ : ∃ wo1 : World, wo1 = wr := ⟨_, rfl⟩
      go_loopw [3, 7] (fun tv i wi => ∃ (q : Nat) (T2 R : List Rd.Tk) (to2 xo : Option Addr) (tc2 xc : Nat), q ≤ r.length ∧ i = .int .i64 q ∧ tv = .slice to2 T2.length tc2 ∧ Hid (T2 = T ++ [⟨1, lx, lp⟩, Rd.isT] ++ (r.take q).map Rd.norm) ∧ Hid (R = (r.take q).map Rd.norm) ∧
          T2.length ≤ k * 11 + 2 + q ∧ R.length ≤ 8 ∧ Hid (CInv w wo1 wi (.slice to T.length tc) wo1.heap.size ⟨1, lx, lp⟩ (.slice to2 T2.length tc2) (.slice xo R.length xc) T2 R)) (fun _ i _ => r.length - (intOf i).toNat)
      case atStart => exact ⟨0, T ++ [⟨1, lx, lp⟩, Rd.isT], [], some ⟨g1, 0, none⟩, none, cap1, 0, Nat.zero_le _, rfl, by simp, by show _ = _; simp, rfl, by simp; omega, Nat.zero_le _, by rw [show (T ++ [⟨1, lx, lp⟩, Rd.isT]).length = T.length + 2 from by simp]; exact HC1⟩
      case round =>
        obtain ⟨q, T2, R, to2, xo, tc2, xc, hq, rfl, rfl, hT2, hR, hT2l, hRl, hci⟩ := hrel
        clear HC1
        obtain ⟨p0, p1, p2, p3, pz0, pz1, pz2, pz3⟩ := cells_four hci.out.blk
        have hlti := hci.out.lt
        have hbi : Hid (Below w.heap.size w wr) := HBR.out.trans hci.out.below
        by_cases hql : q < r.length
        · obtain ⟨b', o', hbo, hj3, hj4, t0, t1, t2⟩ := A4w.out q hql
          subst hbo
          clear hj3 hj4
          replace t0 := cell_later hbi.out t0
          replace t1 := cell_later hbi.out t1
          replace t2 := cell_later hbi.out t2
          have s3 := cell_later hbi.out A3w.out
          have HRL : Hid (R.length = q) := by show _ = _; rw [hR.out, List.length_map, List.length_take]; omega
          have HN0 : Hid ((r.take (q + 1)).map Rd.norm = (r.take q).map Rd.norm ++ [Rd.norm r[q]]) := by show _ = _; rw [List.take_add_one, List.getElem?_eq_getElem hql, List.map_append]; rfl
          generalize r[q] = y at *
          obtain ⟨yk, yx, yp⟩ := y
          simp only at t0 t1 t2
          clear a0 a1 a2 a3
          by_cases hy2 : yk = 2
          · have HN : Hid ((r.take (q + 1)).map Rd.norm = (r.take q).map Rd.norm ++ [⟨2, yx, yp⟩]) := by show _ = _; rw [HN0.out]; simp [Rd.norm, hy2]
            subst hy2
            have HCy : Hid (CInv w wo1 ((wr.alloc (.cells #[.int .i64 2, .string yx, .int .i64 yp] 38)).alloc (.cells #[.int .i64 2, .string yx, .int .i64 yp] 38)) (.slice to T.length tc) wo1.heap.size ⟨1, lx, lp⟩ (.slice to2 T2.length tc2) (.slice xo R.length xc) T2 R) :=
              (hci.out.later ((Below.refl _ _).alloc (Nat.le_refl _) _)).later ((Below.refl _ _).alloc (Nat.le_refl _) _)
            go_wp2_with (at_builtin; refine wpList_append_tka (by rfl) _ _ rfl (wo1.heap.size + 1) (.slice xo R.length xc) R.length (tksCells R) rfl HCy.out.x ⟨wr.heap.size + 1, 0, none⟩ 1 1 (tksCells [⟨2, yx, yp⟩]) rfl rfl ?c1 ?c2 (by decide) ?c3 ?c4 ?_)
            case c1 =>
              have := World.news_of_block (cs := #[.int .i64 2, .string yx, .int .i64 yp]) (t := 38) (fr := (0, 0)) (heap_alloc_new (wr.alloc (.cells #[.int .i64 2, .string yx, .int .i64 yp] 38)) (.cells #[.int .i64 2, .string yx, .int .i64 yp] 38))
              simp at this
              first | exact this | exact fun j u h => h
            case c2 => exact tksCells_one _
            case c3 => omega
            case c4 => first | omega | (simp; omega)
            intro g3 cap3 w3 hown3 hgrow3 hat3
            have hne3 : wr.heap.size ≠ wo1.heap.size := by omega
            have hb3 : w3.heap[wo1.heap.size]? = some (.cells #[.int .i64 1, .string lx, .int .i64 lp, .slice xo R.length xc] 40 (0, 0)) := by
              rw [hgrow3.block _ HCy.out.lt HCy.out.neX]; exact HCy.out.blk
            have hy3 : w3.heap[wr.heap.size]? = some (.cells #[.int .i64 2, .string yx, .int .i64 yp] 38 (0, 0)) := by
              rw [hgrow3.block _ (by simp; omega) (fun e => by have := (hci.out.x.lt _ e.symm).2; omega), Below.heap_alloc _ _ _ (by simp)]; exact heap_alloc_new wr _
            have hs3 : wr.heap.size + 2 ≤ w3.heap.size := by have := hgrow3.size; simp at this; omega
            have HC3 : Hid (CInv w wo1 (w3.setCell ⟨wo1.heap.size, 3, none⟩ (.slice (some ⟨g3, 0, none⟩) (R.length + 1) cap3)) (.slice to T.length tc) wo1.heap.size ⟨1, lx, lp⟩ (.slice to2 T2.length tc2) (.slice (some ⟨g3, 0, none⟩) (R.length + 1) cap3) T2 (R ++ [⟨2, yx, yp⟩])) :=
              HCy.out.pushX ⟨2, yx, yp⟩ hown3 (by simp) hgrow3 (by simpa using hat3)
            obtain ⟨p0, p1, p2, p3, pz0, pz1, pz2, pz3⟩ := cells_four hb3
            obtain ⟨v0, v1, v2, vz0, vz1, vz2⟩ := cells_three hy3
            clear hown3 hgrow3 hat3 HCy hci hb3 hy3
            have HCt : Hid (CInv w wo1 ((w3.setCell ⟨wo1.heap.size, 3, none⟩ (.slice (some ⟨g3, 0, none⟩) (R.length + 1) cap3)).alloc (.cells #[.int .i64 2, .string yx, .int .i64 yp] 38)) (.slice to T.length tc) wo1.heap.size ⟨1, lx, lp⟩ (.slice to2 T2.length tc2) (.slice (some ⟨g3, 0, none⟩) (R.length + 1) cap3) T2 (R ++ [⟨2, yx, yp⟩])) := HC3.out.later ((Below.refl _ _).alloc (Nat.le_refl _) _)
            go_wp2_with (at_builtin; refine wpList_append_tka (by rfl) _ _ rfl w.heap.size (.slice to2 T2.length tc2) T2.length (tksCells T2) rfl HCt.out.t ⟨w3.heap.size, 0, none⟩ 1 1 (tksCells [⟨2, yx, yp⟩]) rfl rfl ?d1 ?d2 (by decide) ?d3 ?d4 ?_)
            case d1 =>
              have := World.news_of_block (cs := #[.int .i64 2, .string yx, .int .i64 yp]) (t := 38) (fr := (0, 0)) (heap_alloc_new (w3.setCell ⟨wo1.heap.size, 3, none⟩ (.slice (some ⟨g3, 0, none⟩) (R.length + 1) cap3)) (.cells #[.int .i64 2, .string yx, .int .i64 yp] 38))
              rw [size_setCell] at this
              exact this
            case d2 => exact tksCells_one _
            case d3 => omega
            case d4 => simp only [World.size_alloc, size_setCell]; omega
            intro g4 cap4 w4 hown4 hgrow4 hat4
            have HC4 : Hid (CInv w wo1 w4 (.slice to T.length tc) wo1.heap.size ⟨1, lx, lp⟩ (.slice (some ⟨g4, 0, none⟩) (T2.length + 1) cap4) (.slice (some ⟨g3, 0, none⟩) (R.length + 1) cap3) (T2 ++ [⟨2, yx, yp⟩]) (R ++ [⟨2, yx, yp⟩])) :=
              HCt.out.pushT [⟨2, yx, yp⟩] hown4 (by simp) hgrow4 (by simpa [size_setCell] using hat4)
            clear hown4 hgrow4 hat4 HCt HC3 p0 p1 p2 p3 pz0 pz1 pz2 pz3 v0 v1 v2 vz0 vz1 vz2
            go_wp2_with fail
            go_roundw
            case rel => exact ⟨q + 1, T2 ++ [⟨2, yx, yp⟩], R ++ [⟨2, yx, yp⟩], some ⟨g4, 0, none⟩, some ⟨g3, 0, none⟩, cap4, cap3, by omega, by go_num, by simp, by show _ = _; rw [hT2.out, HN.out]; simp only [List.append_assoc], by show _ = _; rw [hR.out, HN.out], by simp; omega, by simp; have := HRL.out; omega, by rw [show (T2 ++ [(⟨2, yx, yp⟩ : Rd.Tk)]).length = T2.length + 1 from by simp, show (R ++ [(⟨2, yx, yp⟩ : Rd.Tk)]).length = R.length + 1 from by simp]; exact HC4⟩
            case measure => simp [intOf]; omega
          · have HN : Hid ((r.take (q + 1)).map Rd.norm = (r.take q).map Rd.norm ++ [⟨1, yx, yp⟩]) := by show _ = _; rw [HN0.out]; simp [Rd.norm, hy2, Rd.nm]
            have hyd : (yk != 2) = true := by simp [hy2]
            clear hy2
            have HCy : Hid (CInv w wo1 ((wr.alloc (.cells #[.int .i64 1, .string yx, .int .i64 yp] 38)).alloc (.cells #[.int .i64 1, .string yx, .int .i64 yp] 38)) (.slice to T.length tc) wo1.heap.size ⟨1, lx, lp⟩ (.slice to2 T2.length tc2) (.slice xo R.length xc) T2 R) :=
              (hci.out.later ((Below.refl _ _).alloc (Nat.le_refl _) _)).later ((Below.refl _ _).alloc (Nat.le_refl _) _)
            go_wp2_with (at_builtin; refine wpList_append_tka (by rfl) _ _ rfl (wo1.heap.size + 1) (.slice xo R.length xc) R.length (tksCells R) rfl HCy.out.x ⟨wr.heap.size + 1, 0, none⟩ 1 1 (tksCells [⟨1, yx, yp⟩]) rfl rfl ?c1 ?c2 (by decide) ?c3 ?c4 ?_)
            case c1 =>
              have := World.news_of_block (cs := #[.int .i64 1, .string yx, .int .i64 yp]) (t := 38) (fr := (0, 0)) (heap_alloc_new (wr.alloc (.cells #[.int .i64 1, .string yx, .int .i64 yp] 38)) (.cells #[.int .i64 1, .string yx, .int .i64 yp] 38))
              simp at this
              first | exact this | exact fun j u h => h
            case c2 => exact tksCells_one _
            case c3 => omega
            case c4 => first | omega | (simp; omega)
            intro g3 cap3 w3 hown3 hgrow3 hat3
            have hne3 : wr.heap.size ≠ wo1.heap.size := by omega
            have hb3 : w3.heap[wo1.heap.size]? = some (.cells #[.int .i64 1, .string lx, .int .i64 lp, .slice xo R.length xc] 40 (0, 0)) := by
              rw [hgrow3.block _ HCy.out.lt HCy.out.neX]; exact HCy.out.blk
            have hy3 : w3.heap[wr.heap.size]? = some (.cells #[.int .i64 1, .string yx, .int .i64 yp] 38 (0, 0)) := by
              rw [hgrow3.block _ (by simp; omega) (fun e => by have := (hci.out.x.lt _ e.symm).2; omega), Below.heap_alloc _ _ _ (by simp)]; exact heap_alloc_new wr _
            have hs3 : wr.heap.size + 2 ≤ w3.heap.size := by have := hgrow3.size; simp at this; omega
            have HC3 : Hid (CInv w wo1 (w3.setCell ⟨wo1.heap.size, 3, none⟩ (.slice (some ⟨g3, 0, none⟩) (R.length + 1) cap3)) (.slice to T.length tc) wo1.heap.size ⟨1, lx, lp⟩ (.slice to2 T2.length tc2) (.slice (some ⟨g3, 0, none⟩) (R.length + 1) cap3) T2 (R ++ [⟨1, yx, yp⟩])) :=
              HCy.out.pushX ⟨1, yx, yp⟩ hown3 (by simp) hgrow3 (by simpa using hat3)
            obtain ⟨p0, p1, p2, p3, pz0, pz1, pz2, pz3⟩ := cells_four hb3
            obtain ⟨v0, v1, v2, vz0, vz1, vz2⟩ := cells_three hy3
            clear hown3 hgrow3 hat3 HCy hci hb3 hy3
            have HCt : Hid (CInv w wo1 ((w3.setCell ⟨wo1.heap.size, 3, none⟩ (.slice (some ⟨g3, 0, none⟩) (R.length + 1) cap3)).alloc (.cells #[.int .i64 1, .string yx, .int .i64 yp] 38)) (.slice to T.length tc) wo1.heap.size ⟨1, lx, lp⟩ (.slice to2 T2.length tc2) (.slice (some ⟨g3, 0, none⟩) (R.length + 1) cap3) T2 (R ++ [⟨1, yx, yp⟩])) := HC3.out.later ((Below.refl _ _).alloc (Nat.le_refl _) _)
            go_wp2_with (at_builtin; refine wpList_append_tka (by rfl) _ _ rfl w.heap.size (.slice to2 T2.length tc2) T2.length (tksCells T2) rfl HCt.out.t ⟨w3.heap.size, 0, none⟩ 1 1 (tksCells [⟨1, yx, yp⟩]) rfl rfl ?d1 ?d2 (by decide) ?d3 ?d4 ?_)
            case d1 =>
              have := World.news_of_block (cs := #[.int .i64 1, .string yx, .int .i64 yp]) (t := 38) (fr := (0, 0)) (heap_alloc_new (w3.setCell ⟨wo1.heap.size, 3, none⟩ (.slice (some ⟨g3, 0, none⟩) (R.length + 1) cap3)) (.cells #[.int .i64 1, .string yx, .int .i64 yp] 38))
              rw [size_setCell] at this
              exact this
            case d2 => exact tksCells_one _
            case d3 => omega
            case d4 => simp only [World.size_alloc, size_setCell]; omega
            intro g4 cap4 w4 hown4 hgrow4 hat4
            have HC4 : Hid (CInv w wo1 w4 (.slice to T.length tc) wo1.heap.size ⟨1, lx, lp⟩ (.slice (some ⟨g4, 0, none⟩) (T2.length + 1) cap4) (.slice (some ⟨g3, 0, none⟩) (R.length + 1) cap3) (T2 ++ [⟨1, yx, yp⟩]) (R ++ [⟨1, yx, yp⟩])) :=
              HCt.out.pushT [⟨1, yx, yp⟩] hown4 (by simp) hgrow4 (by simpa [size_setCell] using hat4)
            clear hown4 hgrow4 hat4 HCt HC3 p0 p1 p2 p3 pz0 pz1 pz2 pz3 v0 v1 v2 vz0 vz1 vz2
            go_wp2_with fail
            go_roundw
            case rel => exact ⟨q + 1, T2 ++ [⟨1, yx, yp⟩], R ++ [⟨1, yx, yp⟩], some ⟨g4, 0, none⟩, some ⟨g3, 0, none⟩, cap4, cap3, by omega, by go_num, by simp, by show _ = _; rw [hT2.out, HN.out]; simp only [List.append_assoc], by show _ = _; rw [hR.out, HN.out], by simp; omega, by simp; have := HRL.out; omega, by rw [show (T2 ++ [(⟨1, yx, yp⟩ : Rd.Tk)]).length = T2.length + 1 from by simp, show (R ++ [(⟨1, yx, yp⟩ : Rd.Tk)]).length = R.length + 1 from by simp]; exact HC4⟩
            case measure => simp [intOf]; omega
        · have s3 := cell_later hbi.out A3w.out
          clear a0 a1 a2 a3
          have HK : Hid (r.take q = r) := by show _ = _; rw [List.take_of_length_le (by omega)]
          obtain ⟨ps, hp1, hp2, hp3⟩ := hinv.out.want
          have HP1 : Hid (ps.map (·.1) = A) := hp1
          have HP2 : Hid (wo1.ownsRow w.heap.size 40 4 (.slice wo A.length wc) A.length (alsCells ps)) := hp2
          have HP3 : Hid _ := hp3
          have hpl : ps.length = A.length := by rw [← hp1, List.length_map]
          have HPL : Hid (ps.length = A.length) := hpl
          clear hp1 hp2 hp3 hpl
          have HCe : Hid (CInv w wo1 (wr.alloc (.cells #[.int .i64 5, .string ⟨#[]⟩, .int .i64 0] 38)) (.slice to T.length tc) wo1.heap.size ⟨1, lx, lp⟩ (.slice to2 T2.length tc2) (.slice xo R.length xc) T2 R) := hci.out.later ((Below.refl _ _).alloc (Nat.le_refl _) _)
          go_wp2_with (at_builtin; refine wpList_append_tka (by rfl) _ _ rfl w.heap.size (.slice to2 T2.length tc2) T2.length (tksCells T2) rfl HCe.out.t ⟨wr.heap.size, 0, none⟩ 1 1 (tksCells [Rd.endT]) rfl rfl ?d1 ?d2 (by decide) ?d3 ?d4 ?_)
          case d1 =>
            have := World.news_of_block (cs := #[.int .i64 5, .string ⟨#[]⟩, .int .i64 0]) (t := 38) (fr := (0, 0)) (heap_alloc_new wr (.cells #[.int .i64 5, .string ⟨#[]⟩, .int .i64 0] 38))
            first | exact this | exact fun j u h => h
          case d2 => exact tksCells_one _
          case d3 => omega
          case d4 => have := hbi.out.size; first | omega | (simp; omega)
          intro g4 cap4 w4 hown4 hgrow4 hat4
          have HC4 : Hid (CInv w wo1 w4 (.slice to T.length tc) wo1.heap.size ⟨1, lx, lp⟩ (.slice (some ⟨g4, 0, none⟩) (T2.length + 1) cap4) (.slice xo R.length xc) (T2 ++ [Rd.endT]) R) :=
            HCe.out.pushT [Rd.endT] hown4 (by simp) hgrow4 (by simpa using hat4)
          obtain ⟨p0, p1, p2, p3, pz0, pz1, pz2, pz3⟩ := cells_four HC4.out.blk
          have hlt4 := HC4.out.lt
          have hsz4 : w.heap.size ≤ w4.heap.size := Nat.le_trans hsz HC4.out.grown.size
          have HC5 : Hid (CInv w wo1 (w4.alloc (.cells #[.int .i64 1, .string lx, .int .i64 lp, .slice xo R.length xc] 40)) (.slice to T.length tc) wo1.heap.size ⟨1, lx, lp⟩ (.slice (some ⟨g4, 0, none⟩) (T2.length + 1) cap4) (.slice xo R.length xc) (T2 ++ [Rd.endT]) R) := HC4.out.later ((Below.refl _ _).alloc (Nat.le_refl _) _)
          have HROW : Hid ((w4.alloc (.cells #[.int .i64 1, .string lx, .int .i64 lp, .slice xo R.length xc] 40)).ownsRow w.heap.size 40 4 (.slice wo A.length wc) A.length (alsCells ps)) := CInv.row hinv.out HC5.out HP2.out
          have hA60 : A.length ≤ 60 := by have := hAl.out; omega
          clear hown4 hgrow4 hat4 HCe hci
          go_wp2_with (at_builtin; refine wpList_append_als (by rfl) _ _ rfl w.heap.size (.slice wo A.length wc) A.length (alsCells ps) rfl HROW.out ⟨w4.heap.size, 0, none⟩ 1 1 (alCells ((⟨1, lx, lp⟩, R), .slice xo R.length xc)) rfl rfl ?e1 ?e2 (by decide) ?e3 ?e4 ?_)
          case e1 =>
            have := World.news_of_block (cs := #[.int .i64 1, .string lx, .int .i64 lp, .slice xo R.length xc]) (t := 40) (fr := (0, 0)) (heap_alloc_new w4 (.cells #[.int .i64 1, .string lx, .int .i64 lp, .slice xo R.length xc] 40))
            first | exact this | exact fun j u h => h
          case e2 => intro u hu; simp [alCells, tkCells] at hu; rcases hu with rfl | rfl | rfl | rfl <;> rfl
          case e3 => omega
          case e4 => first | omega | (simp; omega)
          intro g5 cap5 w5 hown5 hgrow5
          have HB5 : Hid (BInv w w5 (.slice (some ⟨g4, 0, none⟩) (T2.length + 1) cap4) (.slice (some ⟨g5, 0, none⟩) (A.length + 1) cap5) (T2 ++ [Rd.endT]) (A ++ [(⟨1, lx, lp⟩, R)])) :=
            CInv.finish hinv.out HC5.out HP1.out HP2.out HP3.out rfl hown5 hgrow5
          clear hown5 hgrow5 HROW HC5 HC4 p0 p1 p2 p3 pz0 pz1 pz2 pz3
          go_wp2_with fail
          go_roundw
          case rel =>
            refine ⟨k + 1, T2 ++ [Rd.endT], A ++ [(⟨1, lx, lp⟩, R)], some ⟨g4, 0, none⟩, some ⟨g5, 0, none⟩, cap4, cap5, by omega, by go_num, by simp, by simp, ?_, ?_, ?_, ?_, ?_, ?_⟩
            · show _ = _
              rw [HTK.out, List.flatMap_append, ← hT.out, hT2.out, HK.out]
              simp [Rd.defT, Rd.nm]
            · show _ = _
              rw [HTK.out, List.map_append, ← hA.out, hR.out, HK.out]
              simp [Rd.wantA, Rd.nm]
            · show _ = _; have := hAl.out; simp; omega
            · simp; omega
            · rw [show (T2 ++ [Rd.endT]).length = T2.length + 1 from by simp, show (A ++ [((⟨1, lx, lp⟩, R) : Rd.Al)]).length = A.length + 1 from by simp]; exact HB5
            · intro x hx
              rw [HTK.out] at hx
              rcases List.mem_append.1 hx with hx | hx
              · exact hgood.out x hx
              · simp at hx
                subst hx
                refine ⟨by simp only; omega, by simp only; omega, fun t ht => ?_⟩
                simp only [fair, Bool.and_eq_true, List.all_eq_true, decide_eq_true_eq] at hf
                exact hf.1 t ht
          case measure => simp [intOf]; omega
    · have HK : Hid (xs.take k = xs) := by show _ = _; rw [List.take_of_length_le (by omega)]
      have hkx : k = xs.length := by omega
      have hne : xs ≠ [] := by intro e; rw [e] at h0; exact h0 rfl
      have hg8 : ∀ x ∈ xs, x.2.length ≤ 8 := fun x hx => (hgood.out x (by rw [HK.out]; exact hx)).1
      have HG1 : Hid (Rd.altsG T 7 = (0, 0, A)) := by show _ = _; rw [hT.out, hA.out, HK.out]; exact Rd.alts_defs hne (by omega) hg8
      have HG2 : Hid (Rd.altsG (T.take (T.length - 1)) 7 = (12, 7, [])) := by show _ = _; rw [hT.out, HK.out]; exact Rd.alts_defs_cut hne (by omega) hg8
      have HX : Hid (∀ t ∈ T, t.text.size ≤ 281474976710656) := by
        intro t ht
        rw [hT.out] at ht
        obtain ⟨x, hx, ht⟩ := List.mem_flatMap.1 ht
        obtain ⟨_, g2, g3⟩ := hgood.out x hx
        simp only [Rd.defT, List.cons_append, List.mem_cons, List.mem_append, List.mem_map, List.not_mem_nil, or_false] at ht
        rcases ht with rfl | rfl | ⟨u, hu, rfl⟩ | rfl
        · simp only [Rd.nm]; omega
        · decide
        · have := g3 u hu
          unfold Rd.norm
          split
          · omega
          · simp only [Rd.nm]; omega
        · decide
      have hTpos : 0 < T.length := by
        rcases Nat.eq_zero_or_pos T.length with h | h
        · have : T = [] := List.eq_nil_of_length_eq_zero h
          have h2 := HG1.out
          rw [this] at h2
          have h3 : (Rd.altsG [] 7).1 = 0 := by rw [h2]
          exact absurd h3 (by decide)
        · exact h
      have HA60 : Hid _ := Rd.altsG_small HG1.out
      have HBR : Hid (Below w.heap.size w wr) := hinv.out.below
      obtain ⟨ps, hp1, hp2, hp3⟩ := hinv.out.want
      have HWANT : Hid (AlsAt w.heap.size wr (.slice wo A.length wc) A) := ⟨ps, hp1, by rw [show ps.length = A.length from by rw [← hp1, List.length_map]]; exact hp2, fun p hp => (hp3 p hp).1⟩
      obtain ⟨to', tc', hv, hat, hc1, hc2, hnone⟩ := tks_read hinv.out.t
      cases hv
      obtain ⟨gt, ot, rfl, _, _⟩ := hat 0 hTpos
      have HTT : Hid (TksAt wr.heap.size wr (some ⟨gt, ot, none⟩) T) := hat
      have HCC : Hid (T.length ≤ tc ∧ tc ≤ maxLen) := ⟨hc1, hc2⟩
      clear hp1 hp2 hp3 hat hnone hinv hgood hT hA hc1 hc2
      go_wp2_with fail
      refine (alts_is (some ⟨gt, ot, none⟩) tc T 7 _ _ _ _ (by omega) HX.out HCC.out HTT.out HG1).mono ?_
      rintro e w2 ⟨zo, zc, rfl, hb2, ha2⟩
      have hb2a : Hid (Below wr.heap.size wr (w2.alloc (Obj.cells #[Value.int IntKind.i64 0, Value.int IntKind.i64 0] 28))) := hb2.out.alloc hb2.out.size _
      have hKK := keepAlts_same A (by have := HA60.out.1; omega) (fun x hx => Nat.le_trans (HA60.out.2 x hx) (by decide)) zo wo zc wc wr.heap.size w.heap.size (w2.alloc (Obj.cells #[Value.int IntKind.i64 0, Value.int IntKind.i64 0] 28)) (ha2.out.alloc _) (HWANT.out.below hb2a.out)
      have hT1 : (0 : Int) ≤ (T.length : Int) - 1 := by omega
      have hT2 : (T.length : Int) - 1 ≤ (tc : Int) := by have := HCC.out.1; omega
      have htn : ((T.length : Int) - 1).toNat = T.length - 1 := by omega
      have HT3 : Hid (TksAt wr.heap.size wr (some ⟨gt, ot, none⟩) (T.take (T.length - 1))) := by have := HTT.out.part 0 (T.length - 1); rw [Nat.zero_mul, Nat.add_zero, List.drop_zero] at this; exact this
      have HX3 : Hid (∀ t ∈ T.take (T.length - 1), t.text.size ≤ 281474976710656) := fun t ht => HX.out t (List.mem_of_mem_take ht)
      have hl3 : (T.take (T.length - 1)).length = T.length - 1 := by rw [List.length_take]; omega
      have hb3 : ∀ n, Below wr.heap.size wr ((w2.alloc (Obj.cells #[Value.int IntKind.i64 0, Value.int IntKind.i64 0] 28)).drewN n) := fun n => below_drewN hb2a.out n
      have HB3 : Hid _ := hb3
      have hC3 := fun n => alts_is (some ⟨gt, ot, none⟩) tc (T.take (T.length - 1)) 7 _ _ _ ((w2.alloc (Obj.cells #[Value.int IntKind.i64 0, Value.int IntKind.i64 0] 28)).drewN n) (by omega) HX3.out ⟨by have := HCC.out.1; omega, HCC.out.2⟩ ((HT3.out.later (hb3 n)).size) HG2
      rw [hl3] at hC3
      have HC3 : Hid _ := hC3
      clear hC3 hb3 hl3
      go_wp2_with (first | (go_at_call 13; refine hKK.mono ?_; rintro e w3 ⟨rfl, n3, rfl⟩) | (go_at_call 11; refine (HC3.out _).mono ?_; rintro e w4 ⟨yo, yc, rfl, hb4, ha4⟩) | (go_at_call 10; refine (rwakes_any _).mono ?_; rintro e w5 ⟨rfl, hb5⟩))
      go_ret
      have h4 : Below w.heap.size w w4 := (HBR.out.trans ((HB3.out n3).mono HBR.out.size)).trans (hb4.out.mono (Nat.le_trans HBR.out.size (HB3.out n3).size))
      have h4a := h4.alloc h4.size (Obj.cells #[Value.int IntKind.i64 12, Value.int IntKind.i64 7] 28)
      exact ⟨rfl, h4a.trans (hb5.mono h4a.size)⟩
end Go.Proofs.Ytjcgnablfhkmoaa
