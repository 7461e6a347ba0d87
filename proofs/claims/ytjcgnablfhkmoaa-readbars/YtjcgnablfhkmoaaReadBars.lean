/-
  The law ReadBars, walked: it returns true, of any token, any rows of tokens.
-/
import Derived.Test.YtjcgnablfhkmoaaReadBuild
namespace Go.Proofs.Ytjcgnablfhkmoaa
open Go.RowKit

theorem norm_text (t : Rd.Tk) : (Rd.norm t).text = t.text ∧ (Rd.norm t).pos = t.pos := by unfold Rd.norm; split <;> exact ⟨rfl, rfl⟩

theorem RowsIn.later {w w' : World} {ao : Option Addr} {xs : List (List Rd.Tk)} (h : RowsIn w ao xs) (hb : Below w.heap.size w w') : RowsIn w' ao xs := by
  intro i hi
  obtain ⟨b, o, ro, rc, rfl, h1, h2, h3, h4⟩ := h i hi
  exact ⟨b, o, ro, rc, rfl, Nat.lt_of_lt_of_le h1 hb.size, cell_later hb h2, (h3.later hb).size, h4⟩

set_option maxRecDepth 100000 in
set_option maxHeartbeats 20000000 in
theorem readBars_walk (nt : Rd.Tk) (ao : Option Addr) (c : Nat) (xs : List (List Rd.Tk)) (w : World) (hnm : nt.text.size ≤ maxLen) (hA : RowsIn w ao xs) (hc : xs.length ≤ c ∧ c ≤ maxLen) :
    Calls Try.prog 5 #[.agg #[.int .i64 nt.kind, .string nt.text, .int .i64 nt.pos], .slice ao xs.length c] w fun e w' => e = .returned (.bool true) ∧ Below w.heap.size w w' := by
  have hlm : xs.length ≤ maxLen := Nat.le_trans hc.1 hc.2
  have HA : Hid (RowsIn w ao xs) := hA
  have hlm' := hlm
  unfold maxLen at hlm' hnm
  clear hA
  obtain ⟨nk, nx, np⟩ := nt
  simp only at hnm ⊢
  have fin : Hid (∀ (o : Obj) (w6 : World), Below (w.alloc o).heap.size (w.alloc o) w6 → Below w.heap.size w w6) := fun o w6 hb => ((Below.refl _ w).alloc (Nat.le_refl _) o).trans (hb.mono ((Below.refl _ w).alloc (Nat.le_refl _) o).size)
  by_cases h0 : xs.length = 0
  · have h0d : ((xs.length : Int) == 0) = true := by simp [h0]
    go_enter Try.func5, Try.ntmps5
    go_wp2_with (first | (go_at_call 10; refine (rwakes_any _).mono ?_; rintro e w1 ⟨rfl, hb⟩))
    go_ret
    exact ⟨rfl, fin.out _ _ hb⟩
  have h0d : ((xs.length : Int) == 0) = false := beq_eq_false_iff_ne.2 (by omega)
  by_cases h60 : 60 < xs.length
  · have h60d : (60 : Int) < (xs.length : Int) := by omega
    go_enter Try.func5, Try.ntmps5
    go_wp2_with (first | (go_at_call 10; refine (rwakes_any _).mono ?_; rintro e w1 ⟨rfl, hb⟩))
    go_ret
    exact ⟨rfl, fin.out _ _ hb⟩
  have h60d : decide ((60 : Int) < (xs.length : Int)) = false := by simp; omega
  by_cases h5 : 500 < nx.size
  · have h5d : (500 : Int) < (nx.size : Int) := by omega
    go_enter Try.func5, Try.ntmps5
    go_wp2_with (first | (go_at_call 10; refine (rwakes_any _).mono ?_; rintro e w1 ⟨rfl, hb⟩))
    go_ret
    exact ⟨rfl, fin.out _ _ hb⟩
  have h5d : (nx.size : Int) ≤ 500 := by omega
  have h5e : decide ((500 : Int) < (nx.size : Int)) = false := by simp; omega
  go_enter Try.func5, Try.ntmps5
  go_wp2_with fail
  have HO0 : Hid (((w.alloc (.cells #[.int .i64 1, .string nx, .int .i64 np] 38)).alloc (.cells #[.int .i64 1, .string nx, .int .i64 np, .int .i64 3, .string ⟨#[]⟩, .int .i64 0] 38)).ownsRow (w.heap.size + 1) 38 3 (.slice (some ⟨w.heap.size + 1, 0, none⟩) 2 2) 2 (tksCells [⟨1, nx, np⟩, Rd.isT])) := by
    refine ⟨rfl, .inr ⟨w.heap.size + 1, 2, #[.int .i64 1, .string nx, .int .i64 np, .int .i64 3, .string ⟨#[]⟩, .int .i64 0], rfl, Nat.le_refl _, ?_, Nat.le_refl _, by unfold maxLen; decide, rfl, rfl⟩⟩
    have := heap_alloc_new (w.alloc (.cells #[.int .i64 1, .string nx, .int .i64 np] 38)) (.cells #[.int .i64 1, .string nx, .int .i64 np, .int .i64 3, .string ⟨#[]⟩, .int .i64 0] 38)
    simpa using this
  have HB0 : Hid (Below (w.heap.size + 1) (w.alloc (.cells #[.int .i64 1, .string nx, .int .i64 np] 38)) ((w.alloc (.cells #[.int .i64 1, .string nx, .int .i64 np] 38)).alloc (.cells #[.int .i64 1, .string nx, .int .i64 np, .int .i64 3, .string ⟨#[]⟩, .int .i64 0] 38))) := (Below.refl _ _).alloc (by simp) _
  have HAW : Hid (RowsIn (w.alloc (.cells #[.int .i64 1, .string nx, .int .i64 np] 38)) ao xs) := HA.out.later ((Below.refl _ w).alloc (Nat.le_refl _) _)
  have hws : (w.alloc (.cells #[.int .i64 1, .string nx, .int .i64 np] 38)).heap.size = w.heap.size + 1 := by simp
  have HBW : Hid (∀ w6 : World, Below (w.heap.size + 1) (w.alloc (.cells #[.int .i64 1, .string nx, .int .i64 np] 38)) w6 → Below w.heap.size w w6) := fun w6 hb => ((Below.refl _ w).alloc (Nat.le_refl _) _).trans (hb.mono (Nat.le_succ _))
  go_loopw [5, 6] (fun tv i wr => ∃ (k : Nat) (T : List Rd.Tk) (to : Option Addr) (tc : Nat), k ≤ xs.length ∧ i = .int .i64 k ∧ tv = .slice to T.length tc ∧ Hid (T = [⟨1, nx, np⟩, Rd.isT] ++ Rd.barsT xs k) ∧ T.length ≤ 2 + k * 9 ∧ w.heap.size + 1 ≤ wr.heap.size ∧
      Hid (Below (w.heap.size + 1) (w.alloc (.cells #[.int .i64 1, .string nx, .int .i64 np] 38)) wr) ∧ Hid (wr.ownsRow (w.heap.size + 1) 38 3 (.slice to T.length tc) T.length (tksCells T)) ∧ Hid (∀ r ∈ xs.take k, r.length ≤ 8 ∧ ∀ t ∈ r, t.text.size ≤ 500)) (fun _ i _ => xs.length - (intOf i).toNat)
  case atStart => exact ⟨0, [⟨1, nx, np⟩, Rd.isT], some ⟨w.heap.size + 1, 0, none⟩, 2, Nat.zero_le _, rfl, rfl, by show _ = _; simp [Rd.barsT], by simp, by simp, HB0, HO0, fun x hx => by simp at hx⟩
  case round =>
    obtain ⟨k, T, to, tc, hk, rfl, rfl, hT, hTl, hsz, hbr, hown, hgood⟩ := hrel
    clear HO0 HB0
    by_cases hlt : k < xs.length
    · obtain ⟨b, o, ro, rc, rfl, hbw, a0, at4, hrc, htx⟩ := (HAW.out k hlt)
      have HTK : Hid (xs.take (k + 1) = xs.take k ++ [xs[k]]) := by show _ = _; rw [List.take_add_one, List.getElem?_eq_getElem hlt]; rfl
      have HGD : Hid (xs.getD k [] = xs[k]) := by show _ = _; rw [List.getD_eq_getElem?_getD, List.getElem?_eq_getElem hlt]; rfl
      generalize xs[k] = r at *
      have hrm : r.length ≤ maxLen := Nat.le_trans hrc.1 hrc.2
      have hrm' := hrm
      unfold maxLen at hrm'
      rw [hws] at at4
      have A4 : Hid (TksAt wr.heap.size wr ro r) := (at4.later hbr.out).size
      have A4w : Hid (TksAt (w.heap.size + 1) (w.alloc (.cells #[.int .i64 1, .string nx, .int .i64 np] 38)) ro r) := at4
      have A0w : Hid ((w.alloc (.cells #[.int .i64 1, .string nx, .int .i64 np] 38)).cell? ⟨b, o + k, none⟩ = some (.slice ro r.length rc)) := a0
      have HTX : Hid (∀ t ∈ r, t.text.size ≤ maxLen) := htx
      have hbw' : b < w.heap.size + 1 := by rw [hws] at hbw; exact hbw
      replace a0 := (hbr.out.cell (p := ⟨b, o + k, none⟩) hbw').trans a0
      clear at4 htx
      by_cases h8 : 8 < r.length
      · have h8d : (8 : Int) < (r.length : Int) := by omega
        go_wp2_with (first | (go_at_call 10; refine (rwakes_any _).mono ?_; rintro e w1 ⟨rfl, hb⟩))
        go_ret
        exact ⟨rfl, (HBW.out _ hbr.out).trans (hb.mono (HBW.out _ hbr.out).size)⟩
      have h8d : decide ((8 : Int) < (r.length : Int)) = false := by simp; omega
      cases hf : fair r
      · go_wp2_with (first | (go_at_call 9; refine (fair_is _ _ _ _ _ hrm HTX.out A4.out hf).mono ?_; rintro e w1 ⟨rfl, rfl⟩) | (go_at_call 10; refine (rwakes_any _).mono ?_; rintro e w1 ⟨rfl, hb⟩))
        go_ret
        exact ⟨rfl, (HBW.out _ hbr.out).trans (hb.mono (HBW.out _ hbr.out).size)⟩
      have HGOOD : Hid (∀ x ∈ xs.take (k + 1), x.length ≤ 8 ∧ ∀ t ∈ x, t.text.size ≤ 500) := by
        intro x hx
        rw [HTK.out] at hx
        rcases List.mem_append.1 hx with hx | hx
        · exact hgood.out x hx
        · simp at hx
          subst hx
          refine ⟨by omega, fun t ht => ?_⟩
          simp only [fair, Bool.and_eq_true, List.all_eq_true, decide_eq_true_eq] at hf
          exact hf.1 t ht
      rcases Nat.eq_zero_or_pos k with rfl | hk0
      · replace a0 : wr.cell? ⟨b, o, none⟩ = some (.slice ro r.length rc) := a0
        go_wp2_with (first | (go_at_call 9; refine (fair_is _ _ _ _ _ hrm HTX.out A4.out hf).mono ?_; rintro e w1 ⟨rfl, rfl⟩))
        obtain ⟨wo1, rfl⟩ : ∃ wo1 : World, wo1 = wr := ⟨_, rfl⟩
        go_loopw [5, 7] (fun tv i wi => ∃ (q : Nat) (T2 : List Rd.Tk) (to2 : Option Addr) (tc2 : Nat), q ≤ r.length ∧ i = .int .i64 q ∧ tv = .slice to2 T2.length tc2 ∧ Hid (T2 = (T) ++ (r.take q).map Rd.norm) ∧ T2.length ≤ (T).length + q ∧ w.heap.size + 1 ≤ wi.heap.size ∧
            Hid (Below (w.heap.size + 1) (w.alloc (.cells #[.int .i64 1, .string nx, .int .i64 np] 38)) wi) ∧ Hid (wi.ownsRow (w.heap.size + 1) 38 3 (.slice to2 T2.length tc2) T2.length (tksCells T2))) (fun _ i _ => r.length - (intOf i).toNat)
        case atStart => exact ⟨0, T, to, tc, Nat.zero_le _, rfl, rfl, by show _ = _; simp, by simp, hsz, hbr, hown⟩
        case round =>
          obtain ⟨q, T2, to2, tc2, hq, rfl, rfl, hT2, hT2l, hsz2, hbr2, hown2⟩ := hrel
          by_cases hql : q < r.length
          · obtain ⟨b', o', hbo, hj3, hj4, t0, t1, t2⟩ := A4w.out q hql
            subst hbo
            clear hj4
            replace t0 := (hbr2.out.cell (p := ⟨b', o' + q * 3, none⟩) hj3).trans t0
            replace t1 := (hbr2.out.cell (p := ⟨b', o' + q * 3 + 1, none⟩) hj3).trans t1
            replace t2 := (hbr2.out.cell (p := ⟨b', o' + q * 3 + 2, none⟩) hj3).trans t2
            have s3 : wr.cell? ⟨b, o, none⟩ = some (.slice _ r.length rc) := (hbr2.out.cell (p := ⟨b, o, none⟩) hbw').trans A0w.out
            have HN0 : Hid ((r.take (q + 1)).map Rd.norm = (r.take q).map Rd.norm ++ [Rd.norm r[q]]) := by show _ = _; rw [List.take_add_one, List.getElem?_eq_getElem hql, List.map_append]; rfl
            generalize r[q] = y at *
            obtain ⟨yk, yx, yp⟩ := y
            simp only at t0 t1 t2
            by_cases hy2 : yk = 2
            · have HN : Hid ((r.take (q + 1)).map Rd.norm = (r.take q).map Rd.norm ++ [⟨2, yx, yp⟩]) := by show _ = _; rw [HN0.out]; simp [Rd.norm, hy2]
              subst hy2
              go_wp2_with (at_builtin; refine wpList_append_tks (by rfl) _ _ rfl (w.heap.size + 1) (.slice to2 T2.length tc2) T2.length (tksCells T2) rfl ((hown2.out.alloc _).alloc _) ⟨wr.heap.size + 1, 0, none⟩ 1 1 (tksCells [⟨2, yx, yp⟩]) rfl rfl ?c1 ?c2 (by decide) ?c3 ?c4 ?_)
              case c1 =>
                have := World.news_of_block (cs := #[.int .i64 2, .string yx, .int .i64 yp]) (t := 38) (fr := (0, 0)) (heap_alloc_new (wr.alloc (.cells #[.int .i64 2, .string yx, .int .i64 yp] 38)) (.cells #[.int .i64 2, .string yx, .int .i64 yp] 38))
                simp at this
                first | exact this | exact fun j u h => h
              case c2 => exact tksCells_one _
              case c3 => omega
              case c4 => first | omega | (simp; omega)
              intro g3 cap3 w3 hown3 hgrow3
              have HO3 : Hid (w3.ownsRow (w.heap.size + 1) 38 3 (.slice (some ⟨g3, 0, none⟩) (T2 ++ [(⟨2, yx, yp⟩ : Rd.Tk)]).length cap3) (T2 ++ [(⟨2, yx, yp⟩ : Rd.Tk)]).length (tksCells (T2 ++ [⟨2, yx, yp⟩]))) := by
                show World.ownsRow _ _ _ _ _ _ _
                rw [tksCells_append, show (T2 ++ [(⟨2, yx, yp⟩ : Rd.Tk)]).length = T2.length + 1 from by simp]; exact hown3
              have HB3 : Hid (Below (w.heap.size + 1) (w.alloc (.cells #[.int .i64 1, .string nx, .int .i64 np] 38)) w3) := ((hbr2.out.alloc (by omega) _).alloc (by simp; omega) _).grown hgrow3 (by simp; omega) (fun q hq => (hown2.out.lt q hq).1)
              have hs3 : w.heap.size + 1 ≤ w3.heap.size := by have := hgrow3.size; simp at this; omega
              clear hown3 hgrow3 hown2
              go_wp2_with fail
              go_roundw
              case rel => exact ⟨q + 1, T2 ++ [⟨2, yx, yp⟩], some ⟨g3, 0, none⟩, cap3, by omega, by go_num, by simp, by show _ = _; rw [hT2.out, HN.out]; simp only [List.append_assoc], by simp; omega, hs3, HB3, HO3⟩
              case measure => simp [intOf]; omega
            · have HN : Hid ((r.take (q + 1)).map Rd.norm = (r.take q).map Rd.norm ++ [⟨1, yx, yp⟩]) := by show _ = _; rw [HN0.out]; simp [Rd.norm, hy2, Rd.nm]
              have hyd : (yk != 2) = true := by simp [hy2]
              clear hy2
              go_wp2_with (at_builtin; refine wpList_append_tks (by rfl) _ _ rfl (w.heap.size + 1) (.slice to2 T2.length tc2) T2.length (tksCells T2) rfl ((hown2.out.alloc _).alloc _) ⟨wr.heap.size + 1, 0, none⟩ 1 1 (tksCells [⟨1, yx, yp⟩]) rfl rfl ?c1 ?c2 (by decide) ?c3 ?c4 ?_)
              case c1 =>
                have := World.news_of_block (cs := #[.int .i64 1, .string yx, .int .i64 yp]) (t := 38) (fr := (0, 0)) (heap_alloc_new (wr.alloc (.cells #[.int .i64 1, .string yx, .int .i64 yp] 38)) (.cells #[.int .i64 1, .string yx, .int .i64 yp] 38))
                simp at this
                first | exact this | exact fun j u h => h
              case c2 => exact tksCells_one _
              case c3 => omega
              case c4 => first | omega | (simp; omega)
              intro g3 cap3 w3 hown3 hgrow3
              have HO3 : Hid (w3.ownsRow (w.heap.size + 1) 38 3 (.slice (some ⟨g3, 0, none⟩) (T2 ++ [(⟨1, yx, yp⟩ : Rd.Tk)]).length cap3) (T2 ++ [(⟨1, yx, yp⟩ : Rd.Tk)]).length (tksCells (T2 ++ [⟨1, yx, yp⟩]))) := by
                show World.ownsRow _ _ _ _ _ _ _
                rw [tksCells_append, show (T2 ++ [(⟨1, yx, yp⟩ : Rd.Tk)]).length = T2.length + 1 from by simp]; exact hown3
              have HB3 : Hid (Below (w.heap.size + 1) (w.alloc (.cells #[.int .i64 1, .string nx, .int .i64 np] 38)) w3) := ((hbr2.out.alloc (by omega) _).alloc (by simp; omega) _).grown hgrow3 (by simp; omega) (fun q hq => (hown2.out.lt q hq).1)
              have hs3 : w.heap.size + 1 ≤ w3.heap.size := by have := hgrow3.size; simp at this; omega
              clear hown3 hgrow3 hown2
              go_wp2_with fail
              go_roundw
              case rel => exact ⟨q + 1, T2 ++ [⟨1, yx, yp⟩], some ⟨g3, 0, none⟩, cap3, by omega, by go_num, by simp, by show _ = _; rw [hT2.out, HN.out]; simp only [List.append_assoc], by simp; omega, hs3, HB3, HO3⟩
              case measure => simp [intOf]; omega
          · have s3 : wr.cell? ⟨b, o, none⟩ = some (.slice _ r.length rc) := (hbr2.out.cell (p := ⟨b, o, none⟩) hbw').trans A0w.out
            have HRT : Hid (r.take q = r) := by show _ = _; rw [List.take_of_length_le (by omega)]
            go_wp2_with fail
            go_roundw
            case rel => exact ⟨1, T2, to2, tc2, by omega, by go_num, rfl, by show _ = _; rw [hT2.out, HRT.out, Rd.barsT, HGD.out, if_neg (Nat.lt_irrefl _), hT.out]; simp only [List.append_assoc, List.nil_append], by omega, hsz2, hbr2, hown2, HGOOD⟩
            case measure => simp [intOf]; omega
      · have hki : (0 : Int) < (k : Int) := by omega
        go_wp2_with (first | (go_at_call 9; refine (fair_is _ _ _ _ _ hrm HTX.out A4.out hf).mono ?_; rintro e w1 ⟨rfl, rfl⟩) | (at_builtin; refine wpList_append_tks (by rfl) _ _ rfl (w.heap.size + 1) (.slice to T.length tc) T.length (tksCells T) rfl (hown.out.alloc _) ⟨wr.heap.size, 0, none⟩ 1 1 (tksCells [Rd.barT]) rfl rfl ?c1 ?c2 (by decide) ?c3 ?c4 ?_))
        case c1 =>
          have := World.news_of_block (cs := #[.int .i64 4, .string ⟨#[]⟩, .int .i64 0]) (t := 38) (fr := (0, 0)) (heap_alloc_new wr (.cells #[.int .i64 4, .string ⟨#[]⟩, .int .i64 0] 38))
          first | exact this | exact fun j u h => h
        case c2 => exact tksCells_one _
        case c3 => omega
        case c4 => first | omega | (simp; omega)
        intro g1 cap1 w1 hown1 hgrow1
        have HO1 : Hid (w1.ownsRow (w.heap.size + 1) 38 3 (.slice (some ⟨g1, 0, none⟩) (T ++ [Rd.barT]).length cap1) (T ++ [Rd.barT]).length (tksCells (T ++ [Rd.barT]))) := by
          show World.ownsRow _ _ _ _ _ _ _
          rw [tksCells_append, show (T ++ [Rd.barT]).length = T.length + 1 from by simp]; exact hown1
        have HB1 : Hid (Below (w.heap.size + 1) (w.alloc (.cells #[.int .i64 1, .string nx, .int .i64 np] 38)) w1) := (hbr.out.alloc hsz _).grown hgrow1 (by simp; omega) (fun q hq => (hown.out.lt q hq).1)
        have hs1 : w.heap.size + 1 ≤ w1.heap.size := by have := hgrow1.size; simp at this; omega
        have hTb : (T ++ [Rd.barT]).length = T.length + 1 := by simp
        clear hown1 hgrow1
        go_wp2_with fail
        obtain ⟨wo1, rfl⟩ : ∃ wo1 : World, wo1 = wr := ⟨_, rfl⟩
        go_loopw [5, 7] (fun tv i wi => ∃ (q : Nat) (T2 : List Rd.Tk) (to2 : Option Addr) (tc2 : Nat), q ≤ r.length ∧ i = .int .i64 q ∧ tv = .slice to2 T2.length tc2 ∧ Hid (T2 = (T ++ [Rd.barT]) ++ (r.take q).map Rd.norm) ∧ T2.length ≤ (T ++ [Rd.barT]).length + q ∧ w.heap.size + 1 ≤ wi.heap.size ∧
            Hid (Below (w.heap.size + 1) (w.alloc (.cells #[.int .i64 1, .string nx, .int .i64 np] 38)) wi) ∧ Hid (wi.ownsRow (w.heap.size + 1) 38 3 (.slice to2 T2.length tc2) T2.length (tksCells T2))) (fun _ i _ => r.length - (intOf i).toNat)
        case atStart => exact ⟨0, T ++ [Rd.barT], some ⟨g1, 0, none⟩, cap1, Nat.zero_le _, rfl, by simp, by show _ = _; simp, by simp, hs1, HB1, HO1⟩
        case round =>
          obtain ⟨q, T2, to2, tc2, hq, rfl, rfl, hT2, hT2l, hsz2, hbr2, hown2⟩ := hrel
          by_cases hql : q < r.length
          · obtain ⟨b', o', hbo, hj3, hj4, t0, t1, t2⟩ := A4w.out q hql
            subst hbo
            clear hj4
            replace t0 := (hbr2.out.cell (p := ⟨b', o' + q * 3, none⟩) hj3).trans t0
            replace t1 := (hbr2.out.cell (p := ⟨b', o' + q * 3 + 1, none⟩) hj3).trans t1
            replace t2 := (hbr2.out.cell (p := ⟨b', o' + q * 3 + 2, none⟩) hj3).trans t2
            have s3 := (hbr2.out.cell (p := ⟨b, o + k, none⟩) hbw').trans A0w.out
            have HN0 : Hid ((r.take (q + 1)).map Rd.norm = (r.take q).map Rd.norm ++ [Rd.norm r[q]]) := by show _ = _; rw [List.take_add_one, List.getElem?_eq_getElem hql, List.map_append]; rfl
            generalize r[q] = y at *
            obtain ⟨yk, yx, yp⟩ := y
            simp only at t0 t1 t2
            by_cases hy2 : yk = 2
            · have HN : Hid ((r.take (q + 1)).map Rd.norm = (r.take q).map Rd.norm ++ [⟨2, yx, yp⟩]) := by show _ = _; rw [HN0.out]; simp [Rd.norm, hy2]
              subst hy2
              go_wp2_with (at_builtin; refine wpList_append_tks (by rfl) _ _ rfl (w.heap.size + 1) (.slice to2 T2.length tc2) T2.length (tksCells T2) rfl ((hown2.out.alloc _).alloc _) ⟨wr.heap.size + 1, 0, none⟩ 1 1 (tksCells [⟨2, yx, yp⟩]) rfl rfl ?c1 ?c2 (by decide) ?c3 ?c4 ?_)
              case c1 =>
                have := World.news_of_block (cs := #[.int .i64 2, .string yx, .int .i64 yp]) (t := 38) (fr := (0, 0)) (heap_alloc_new (wr.alloc (.cells #[.int .i64 2, .string yx, .int .i64 yp] 38)) (.cells #[.int .i64 2, .string yx, .int .i64 yp] 38))
                simp at this
                first | exact this | exact fun j u h => h
              case c2 => exact tksCells_one _
              case c3 => omega
              case c4 => first | omega | (simp; omega)
              intro g3 cap3 w3 hown3 hgrow3
              have HO3 : Hid (w3.ownsRow (w.heap.size + 1) 38 3 (.slice (some ⟨g3, 0, none⟩) (T2 ++ [(⟨2, yx, yp⟩ : Rd.Tk)]).length cap3) (T2 ++ [(⟨2, yx, yp⟩ : Rd.Tk)]).length (tksCells (T2 ++ [⟨2, yx, yp⟩]))) := by
                show World.ownsRow _ _ _ _ _ _ _
                rw [tksCells_append, show (T2 ++ [(⟨2, yx, yp⟩ : Rd.Tk)]).length = T2.length + 1 from by simp]; exact hown3
              have HB3 : Hid (Below (w.heap.size + 1) (w.alloc (.cells #[.int .i64 1, .string nx, .int .i64 np] 38)) w3) := ((hbr2.out.alloc (by omega) _).alloc (by simp; omega) _).grown hgrow3 (by simp; omega) (fun q hq => (hown2.out.lt q hq).1)
              have hs3 : w.heap.size + 1 ≤ w3.heap.size := by have := hgrow3.size; simp at this; omega
              clear hown3 hgrow3 hown2
              go_wp2_with fail
              go_roundw
              case rel => exact ⟨q + 1, T2 ++ [⟨2, yx, yp⟩], some ⟨g3, 0, none⟩, cap3, by omega, by go_num, by simp, by show _ = _; rw [hT2.out, HN.out]; simp only [List.append_assoc], by simp; omega, hs3, HB3, HO3⟩
              case measure => simp [intOf]; omega
            · have HN : Hid ((r.take (q + 1)).map Rd.norm = (r.take q).map Rd.norm ++ [⟨1, yx, yp⟩]) := by show _ = _; rw [HN0.out]; simp [Rd.norm, hy2, Rd.nm]
              have hyd : (yk != 2) = true := by simp [hy2]
              clear hy2
              go_wp2_with (at_builtin; refine wpList_append_tks (by rfl) _ _ rfl (w.heap.size + 1) (.slice to2 T2.length tc2) T2.length (tksCells T2) rfl ((hown2.out.alloc _).alloc _) ⟨wr.heap.size + 1, 0, none⟩ 1 1 (tksCells [⟨1, yx, yp⟩]) rfl rfl ?c1 ?c2 (by decide) ?c3 ?c4 ?_)
              case c1 =>
                have := World.news_of_block (cs := #[.int .i64 1, .string yx, .int .i64 yp]) (t := 38) (fr := (0, 0)) (heap_alloc_new (wr.alloc (.cells #[.int .i64 1, .string yx, .int .i64 yp] 38)) (.cells #[.int .i64 1, .string yx, .int .i64 yp] 38))
                simp at this
                first | exact this | exact fun j u h => h
              case c2 => exact tksCells_one _
              case c3 => omega
              case c4 => first | omega | (simp; omega)
              intro g3 cap3 w3 hown3 hgrow3
              have HO3 : Hid (w3.ownsRow (w.heap.size + 1) 38 3 (.slice (some ⟨g3, 0, none⟩) (T2 ++ [(⟨1, yx, yp⟩ : Rd.Tk)]).length cap3) (T2 ++ [(⟨1, yx, yp⟩ : Rd.Tk)]).length (tksCells (T2 ++ [⟨1, yx, yp⟩]))) := by
                show World.ownsRow _ _ _ _ _ _ _
                rw [tksCells_append, show (T2 ++ [(⟨1, yx, yp⟩ : Rd.Tk)]).length = T2.length + 1 from by simp]; exact hown3
              have HB3 : Hid (Below (w.heap.size + 1) (w.alloc (.cells #[.int .i64 1, .string nx, .int .i64 np] 38)) w3) := ((hbr2.out.alloc (by omega) _).alloc (by simp; omega) _).grown hgrow3 (by simp; omega) (fun q hq => (hown2.out.lt q hq).1)
              have hs3 : w.heap.size + 1 ≤ w3.heap.size := by have := hgrow3.size; simp at this; omega
              clear hown3 hgrow3 hown2
              go_wp2_with fail
              go_roundw
              case rel => exact ⟨q + 1, T2 ++ [⟨1, yx, yp⟩], some ⟨g3, 0, none⟩, cap3, by omega, by go_num, by simp, by show _ = _; rw [hT2.out, HN.out]; simp only [List.append_assoc], by simp; omega, hs3, HB3, HO3⟩
              case measure => simp [intOf]; omega
          · have s3 := (hbr2.out.cell (p := ⟨b, o + k, none⟩) hbw').trans A0w.out
            have HRT : Hid (r.take q = r) := by show _ = _; rw [List.take_of_length_le (by omega)]
            go_wp2_with fail
            go_roundw
            case rel => exact ⟨k + 1, T2, to2, tc2, by omega, by go_num, rfl, by show _ = _; rw [hT2.out, HRT.out, Rd.barsT, HGD.out]; rw [if_pos hk0, hT.out]; simp only [List.append_assoc], by omega, hsz2, hbr2, hown2, HGOOD⟩
            case measure => simp [intOf]; omega
    · have e : k = xs.length := by omega
      subst e
      clear hlt
      have HK : Hid (xs.take xs.length = xs) := by show _ = _; rw [List.take_length]
      have hg8 : ∀ x ∈ xs, x.length ≤ 8 := fun x hx => (hgood.out x (by rw [HK.out]; exact hx)).1
      have HG1 : Hid (Rd.altsG (T ++ [Rd.endT]) 0 = (0, 0, xs.map (fun r => ((⟨1, nx, np⟩ : Rd.Tk), r.map Rd.norm)))) := by show _ = _; rw [hT.out]; exact Rd.alts_bars rfl (by omega) (by omega) hg8
      have HX : Hid (∀ t ∈ T ++ [Rd.endT], t.text.size ≤ 281474976710656) := by
        have hb : ∀ j, j ≤ xs.length → ∀ t ∈ Rd.barsT xs j, t.text.size ≤ 500 := by
          intro j
          induction j with
          | zero => intro _ t ht; simp [Rd.barsT] at ht
          | succ j ih =>
            intro hj t ht
            rw [Rd.barsT] at ht
            rcases List.mem_append.1 ht with ht | ht
            · rcases List.mem_append.1 ht with ht | ht
              · exact ih (by omega) t ht
              · split at ht
                · simp at ht; subst ht; decide
                · simp at ht
            · obtain ⟨u, hu, rfl⟩ := List.mem_map.1 ht
              rw [List.getD_eq_getElem?_getD, List.getElem?_eq_getElem (by omega)] at hu
              have := (hgood.out xs[j] (by rw [HK.out]; exact List.getElem_mem _)).2 u hu
              unfold Rd.norm
              split
              · exact this
              · exact this
        intro t ht
        rw [hT.out] at ht
        rcases List.mem_append.1 ht with ht | ht
        · rcases List.mem_append.1 ht with ht | ht
          · simp only [List.mem_cons, List.not_mem_nil, or_false] at ht
            rcases ht with rfl | rfl
            · simp only; omega
            · decide
          · have := hb _ (Nat.le_refl _) t ht; omega
        · simp at ht; subst ht; decide
      go_wp2_with (at_builtin; refine wpList_append_tks (by rfl) _ _ rfl (w.heap.size + 1) (.slice to T.length tc) T.length (tksCells T) rfl (hown.out.alloc _) ⟨wr.heap.size, 0, none⟩ 1 1 (tksCells [Rd.endT]) rfl rfl ?c1 ?c2 (by decide) ?c3 ?c4 ?_)
      case c1 =>
        have := World.news_of_block (cs := #[.int .i64 5, .string ⟨#[]⟩, .int .i64 0]) (t := 38) (fr := (0, 0)) (heap_alloc_new wr (.cells #[.int .i64 5, .string ⟨#[]⟩, .int .i64 0] 38))
        first | exact this | exact fun j u h => h
      case c2 => exact tksCells_one _
      case c3 => omega
      case c4 => first | omega | (simp; omega)
      intro g1 cap1 w1 hown1 hgrow1
      have hTe : (T ++ [Rd.endT]).length = T.length + 1 := by simp
      have HO1 : Hid (w1.ownsRow (w.heap.size + 1) 38 3 (.slice (some ⟨g1, 0, none⟩) (T ++ [Rd.endT]).length cap1) (T ++ [Rd.endT]).length (tksCells (T ++ [Rd.endT]))) := by
        show World.ownsRow _ _ _ _ _ _ _
        rw [tksCells_append, hTe]; exact hown1
      have HB1 : Hid (Below (w.heap.size + 1) (w.alloc (.cells #[.int .i64 1, .string nx, .int .i64 np] 38)) w1) := (hbr.out.alloc hsz _).grown hgrow1 (by simp; omega) (fun q hq => (hown.out.lt q hq).1)
      have hs1 : w.heap.size + 1 ≤ w1.heap.size := by have := hgrow1.size; simp at this; omega
      clear hown1 hgrow1
      obtain ⟨to', tc', hv, hat, hc1, hc2, hnone⟩ := tks_read HO1.out
      cases hv
      have hC := alts_is (some ⟨g1, 0, none⟩) cap1 (T ++ [Rd.endT]) 0 _ _ _ w1 (by omega) HX.out ⟨hc1, hc2⟩ hat HG1
      rw [hTe, List.length_map] at hC
      clear hat hnone
      go_wp2_with fail
      refine hC.mono ?_
      rintro e w2 ⟨zo, zc, rfl, hb2, ha2⟩
      have HB2 : Hid (Below (w.heap.size + 1) (w.alloc (.cells #[.int .i64 1, .string nx, .int .i64 np] 38)) (w2.alloc (.cells #[.int .i64 0, .int .i64 0] 28))) := (HB1.out.trans (hb2.out.mono hs1)).alloc (Nat.le_trans hs1 hb2.out.size) _
      have HA2 : Hid (AlsAt w1.heap.size (w2.alloc (.cells #[.int .i64 0, .int .i64 0] 28)) (.slice zo xs.length zc) (xs.map (fun r => ((⟨1, nx, np⟩ : Rd.Tk), r.map Rd.norm)))) := ha2.out.alloc _
      have n0 : (w2.alloc (.cells #[.int .i64 0, .int .i64 0] 28)).cell? ⟨w.heap.size, 0, none⟩ = some (.int .i64 1) := (HB2.out.cell (by exact Nat.lt_succ_self _)).trans (by simp)
      have n1 : (w2.alloc (.cells #[.int .i64 0, .int .i64 0] 28)).cell? ⟨w.heap.size, 1, none⟩ = some (.string nx) := (HB2.out.cell (by exact Nat.lt_succ_self _)).trans (by simp)
      have n2 : (w2.alloc (.cells #[.int .i64 0, .int .i64 0] 28)).cell? ⟨w.heap.size, 2, none⟩ = some (.int .i64 np) := (HB2.out.cell (by exact Nat.lt_succ_self _)).trans (by simp)
      clear hC hb2 ha2
      have HBF : Hid (Below w.heap.size w (w2.alloc (.cells #[.int .i64 0, .int .i64 0] 28))) := HBW.out _ HB2.out
      have HROW : Hid (RowsIn (w2.alloc (.cells #[.int .i64 0, .int .i64 0] 28)) ao xs) := by
        refine HAW.out.later ?_
        rw [hws]
        exact HB2.out
      go_wp2_with fail
      generalize (w2.alloc (.cells #[.int .i64 0, .int .i64 0] 28)) = W at *
      obtain ⟨wo1, rfl⟩ : ∃ wo1 : World, wo1 = wr := ⟨_, rfl⟩
      clear hgood hown hbr HO1 HB1 HB2 HX HG1 HAW HA
      go_loopw [11] (fun i wr => ∃ k : Nat, k ≤ xs.length ∧ i = .int .i64 k ∧ Hid (∃ n, wr = W.drewN n)) (fun i _ => xs.length - (intOf i).toNat)
      case atStart => exact ⟨0, Nat.zero_le _, rfl, ⟨0, rfl⟩⟩
      case round =>
        obtain ⟨k, hk2, rfl, hw⟩ := hrel
        have hbr : Hid (Below W.heap.size W wr) := by obtain ⟨n, rfl⟩ := hw.out; exact below_drewN (Below.refl _ W) n
        replace n0 := cell_later hbr.out n0
        replace n1 := cell_later hbr.out n1
        replace n2 := cell_later hbr.out n2
        by_cases hlt : k < xs.length
        · obtain ⟨g, ro', rc', rfl, hg, a0, a1, a2, a3, at4⟩ := HA2.out.right k (by rw [List.length_map]; exact hlt)
          obtain ⟨b, o, ro, rc, rfl, hbw, b0, bt4, hrc, htx⟩ := HROW.out k hlt
          have hml : ((xs.map (fun r => ((⟨1, nx, np⟩ : Rd.Tk), r.map Rd.norm)))[k]'(by rw [List.length_map]; exact hlt)) = (⟨1, nx, np⟩, (xs[k]).map Rd.norm) := by rw [List.getElem_map]
          rw [hml] at a0 a1 a2 a3 at4
          have h8 := hg8 xs[k] (List.getElem_mem hlt)
          clear hml
          generalize xs[k] = r at *
          simp only [List.length_map] at a0 a1 a2 a3 at4
          have AT : Hid (TksAt W.heap.size W ro' (r.map Rd.norm)) := at4
          have BT : Hid (TksAt W.heap.size W ro r) := bt4
          have A3w : Hid (W.cell? ⟨g, k * 4 + 3, none⟩ = some (.slice ro' r.length rc')) := a3
          have B0w : Hid (W.cell? ⟨b, o + k, none⟩ = some (.slice ro r.length rc)) := b0
          replace a0 := cell_later hbr.out a0
          replace a1 := cell_later hbr.out a1
          replace a2 := cell_later hbr.out a2
          replace a3 := cell_later hbr.out a3
          replace b0 := cell_later hbr.out b0
          have hne : ((r.length : Int) != (r.length : Int)) = false := by simp
          clear at4 bt4 htx hrc
          go_wp2_with fail
          go_quiet (fail)
          go_wp2_with fail
          have HW3 : Hid (∃ n, wr.drewN nq = W.drewN n) := by obtain ⟨n, rfl⟩ := hw.out; exact ⟨n + nq, World.drewN_drewN _ _ _⟩
          go_loopw [12] (fun i wi => ∃ q : Nat, q ≤ r.length ∧ i = .int .i64 q ∧ Hid (∃ n, wi = W.drewN n)) (fun i _ => r.length - (intOf i).toNat)
          case atStart => exact ⟨0, Nat.zero_le _, rfl, HW3⟩
          case round =>
            obtain ⟨q, hq, rfl, hwi⟩ := hrel
            have hbi : Hid (Below W.heap.size W wr) := by obtain ⟨n, rfl⟩ := hwi.out; exact below_drewN (Below.refl _ W) n
            clear a0 a1 a2 a3 b0 n0 n1 n2
            have a3 := cell_later hbi.out A3w.out
            have b0 := cell_later hbi.out B0w.out
            by_cases hql : q < r.length
            · obtain ⟨e1, f1, he1, _, _, s0, s1, s2⟩ := AT.out q (by rw [List.length_map]; exact hql)
              obtain ⟨e2, f2, he2, _, _, t0, t1, t2⟩ := BT.out q hql
              subst he1
              subst he2
              have hgn : (r.map Rd.norm)[q]'(by rw [List.length_map]; exact hql) = Rd.norm r[q] := by rw [List.getElem_map]
              rw [hgn] at s0 s1 s2
              rw [(norm_text _).1] at s1
              rw [(norm_text _).2] at s2
              generalize (Rd.norm r[q]).kind = nk2 at s0
              clear hgn
              generalize r[q] = y at *
              obtain ⟨yk, yx, yp⟩ := y
              simp only at s0 s1 s2 t0 t1 t2
              replace s0 := cell_later hbi.out s0
              replace s1 := cell_later hbi.out s1
              replace s2 := cell_later hbi.out s2
              replace t0 := cell_later hbi.out t0
              replace t1 := cell_later hbi.out t1
              replace t2 := cell_later hbi.out t2
              go_wp2_with fail
              go_quiet (fail)
              go_wp2_with fail
              go_roundw
              case rel => exact ⟨q + 1, by omega, by go_num, by obtain ⟨n, rfl⟩ := hwi.out; exact ⟨n + nq, World.drewN_drewN _ _ _⟩⟩
              case measure => simp [intOf]; omega
            · go_wp2_with fail
              go_roundw
              case rel => exact ⟨k + 1, by omega, by go_num, hwi⟩
              case measure => simp [intOf]; omega
        · go_wp2_with (first | (go_at_call 10; refine (rwakes_any _).mono ?_; rintro e w6 ⟨rfl, hb6⟩))
          go_ret
          have h1 : Below w.heap.size w wr := HBF.out.trans (hbr.out.mono HBF.out.size)
          exact ⟨rfl, h1.trans (hb6.mono h1.size)⟩
end Go.Proofs.Ytjcgnablfhkmoaa
