/-
  The law GrammarMay, walked: it returns true, of every text.
-/
import Derived.Test.YtimjopaedfefmaaGrMayMath
namespace Go.Proofs.Ytimjopaedfefmaa
open Go.RowKit

set_option maxRecDepth 100000 in
set_option maxHeartbeats 12000000 in
theorem grammarMay_in (s : ByteArray) (w : World) (hs : s.size ≤ maxLen) (h2 : s.size ≤ 2000) (g : Gr.Gm) (us : List Lx.Tok) (xs : List Rd.Al) (hof : ofS s.data.toList = (0, 0, g)) (hT : tokensG s.data.toList = (0, 0, us)) (hlen : us.length ≤ 2000)
    (hrun : Rd.run ⟨[], .start⟩ (us.map tkOf) = .ok ⟨xs, .start⟩) (hne : 0 < g.rules.length) (hg : Gr.good g = true) (hmf : Gr.MF xs g) :
    Calls Try.prog 3 #[.string s] w fun e w' => e = .returned (.bool true) ∧ Below w.heap.size w w' := by
  have G1 : Hid (ofS s.data.toList = (0, 0, g)) := hof
  have GT : Hid (tokensG s.data.toList = (0, 0, us)) := hT
  have HRUN : Hid (Rd.run ⟨[], .start⟩ (us.map tkOf) = .ok ⟨xs, .start⟩) := hrun
  have HMF : Hid (Gr.MF xs g) := hmf
  have HGD : Hid (Gr.good g = true) := hg
  have h9d : decide (2000 < (s.size : Int)) = false := decide_eq_false (by omega)
  have hnez : ((g.rules.length : Int) == 0) = false := beq_eq_false_iff_ne.2 (by omega)
  have hTl : (us.map tkOf).length ≤ 2000 := by rw [List.length_map]; exact hlen
  have HTK : Hid (∀ W : World, _) := fun W => rtokens_is s 0 0 us (us.map tkOf) W hs GT rfl
  have hr60 := hmf.t40.2.2
  clear hof hT hrun hg hmf hlen
  generalize us.map tkOf = T at *
  go_enter Try.func3, Try.ntmps3
  go_wp2_with fail
  refine (of_is s 0 0 g _ hs G1).mono ?_
  rintro e w1 ⟨⟨ta, tc, na, nc, ra, rc⟩, rfl, hb1, ho1⟩
  simp only [gmCells]
  go_wp2_with (go_at_call 11; fail)
  refine (HTK.out _).mono ?_
  rintro e w2 ⟨ao, c, rfl, hb2, ht2, hc2⟩
  have hbA : Hid (Below w1.heap.size w1 ((w1.alloc (Obj.cells #[.slice ta g.terms.length tc, .slice na g.names.length nc, .slice ra g.rules.length rc] 26)).alloc (Obj.cells #[.int .i64 0, .int .i64 0] 29))) := ((Below.refl _ w1).alloc (Nat.le_refl _) _).alloc (by simp) _
  have f0 : w2.cell? ⟨w1.heap.size + 1, 0, none⟩ = some (.int .i64 0) := (hb2.out.cell (by simp)).trans (by simp [go_sem])
  have g0 : w2.cell? ⟨w1.heap.size, 0, none⟩ = some (.slice ta g.terms.length tc) := (hb2.out.cell (by simp; omega)).trans (by simp [go_sem])
  have g1 : w2.cell? ⟨w1.heap.size, 1, none⟩ = some (.slice na g.names.length nc) := (hb2.out.cell (by simp; omega)).trans (by simp [go_sem])
  have g2 : w2.cell? ⟨w1.heap.size, 2, none⟩ = some (.slice ra g.rules.length rc) := (hb2.out.cell (by simp; omega)).trans (by simp [go_sem])
  have hb1x : Hid (Below w1.heap.size w1 w2) := hbA.out.trans (hb2.out.mono hbA.out.size)
  have hb12 : Hid (Below w.heap.size w w2) := hb1.out.trans (hb1x.out.mono hb1.out.size)
  have hbB : Hid (Below w2.heap.size w2 (w2.alloc (Obj.cells #[.int .i64 0, .int .i64 0] 29))) := (Below.refl _ w2).alloc (Nat.le_refl _) _
  have e0 : (w2.alloc (Obj.cells #[.int .i64 0, .int .i64 0] 29)).cell? ⟨w2.heap.size, 0, none⟩ = some (.int .i64 0) := by simp [go_sem]
  have HGM : Hid (GmAt (w2.alloc (Obj.cells #[.int .i64 0, .int .i64 0] 29)).heap.size (w2.alloc (Obj.cells #[.int .i64 0, .int .i64 0] 29)) g ⟨ta, tc, na, nc, ra, rc⟩) := (ho1.out.at.next hb1x.out).next hbB.out
  have HTE : Hid (TksAt (w2.alloc (Obj.cells #[.int .i64 0, .int .i64 0] 29)).heap.size (w2.alloc (Obj.cells #[.int .i64 0, .int .i64 0] 29)) ao T) := (ht2.out.later hbB.out).size
  replace f0 := cell_later hbB.out f0
  replace g0 := cell_later hbB.out g0
  replace g1 := cell_later hbB.out g1
  replace g2 := cell_later hbB.out g2
  have hbZ : Hid (Below w.heap.size w (w2.alloc (Obj.cells #[.int .i64 0, .int .i64 0] 29))) := hb12.out.trans (hbB.out.mono hb12.out.size)
  clear hb2 hbA hb1 ho1 hbB hb12 hb1x ht2 HTK
  go_upto_region 5 with fail
  generalize (w2.alloc (Obj.cells #[.int .i64 0, .int .i64 0] 29)) = W0 at *
  go_wp2_with (go_at_call 12; fail)
  refine (good_is true g ⟨ta, tc, na, nc, ra, rc⟩ W0 (fun x hx => by have := HMF.out.r8 x hx; unfold maxLen; omega) HGM.out HGD.out).mono ?_
  rintro e W ⟨rfl, hbG⟩
  have HBW : Hid (Below w.heap.size w W) := hbZ.out.trans (hbG.mono hbZ.out.size)
  have HGW : Hid (GmAt W.heap.size W g ⟨ta, tc, na, nc, ra, rc⟩) := HGM.out.next hbG
  have HTW : Hid (TksAt W.heap.size W ao T) := (HTE.out.later hbG).size
  replace g0 := cell_later hbG g0
  replace g1 := cell_later hbG g1
  replace g2 := cell_later hbG g2
  clear hbG hbZ HGM HTE f0 e0
  go_wp2_with fail
  have HG3 : Hid (W.cell? ⟨w1.heap.size, 0, none⟩ = some (.slice ta g.terms.length tc) ∧ W.cell? ⟨w1.heap.size, 1, none⟩ = some (.slice na g.names.length nc) ∧ W.cell? ⟨w1.heap.size, 2, none⟩ = some (.slice ra g.rules.length rc)) := ⟨g0, g1, g2⟩
  clear g0 g1 g2
  go_loopw [7, 8, 9, 10] (fun vr vl vx i wr => ∃ (k : Nat) (s1 : Rd.St) (x : ByteArray) (rt : List Rd.Tk) (xo : Option Addr) (xc : Nat), k ≤ T.length ∧ i = .int .i64 k ∧ vr = .int .i64 (Gr.rules g.terms g.names s1.acc).length ∧ vl = .string x ∧ vx = .slice xo rt.length xc ∧
      rt.length ≤ k ∧ Hid (Rd.run s1 (T.drop k) = .ok ⟨xs, .start⟩) ∧ Hid (Gr.mdLR s1.md x rt) ∧ Hid (wr.ownsRow W.heap.size 37 3 (.slice xo rt.length xc) rt.length (tksCells rt)) ∧ Hid (Below W.heap.size W wr)) (fun _ _ _ i _ => T.length - (intOf i).toNat)
  case atStart => exact ⟨0, ⟨[], .start⟩, ⟨#[]⟩, [], none, 0, Nat.zero_le _, rfl, rfl, rfl, rfl, Nat.zero_le _, by show _ = _; rw [List.drop_zero]; exact HRUN.out, rfl, World.ownsRow_nil _ _ _ _, Below.refl _ _⟩
  case round =>
    obtain ⟨k, s1, x, rt, xo, xc, hk, rfl, rfl, rfl, rfl, hrt, hE, hM, ho, hb⟩ := hrel
    have hpre := Gr.rules_pre g.terms g.names xs s1.acc.length
    have hacc : s1.acc <+: xs := Rd.run_accpre _ _ _ hE.out
    have hta : xs.take s1.acc.length = s1.acc := (List.prefix_iff_eq_take.1 hacc).symm
    rw [hta, ← HMF.out.rls] at hpre
    have hrl := hpre.length_le
    have HPRE : Hid (Gr.rules g.terms g.names s1.acc <+: g.rules) := hpre
    have HACC : Hid (s1.acc <+: xs) := hacc
    clear hpre hacc hta HRUN
    by_cases hlt : k < T.length
    · have hki : (k : Int) < (T.length : Int) := by omega
      obtain ⟨b, o, hao, hbw, _, t0, t1, t2⟩ := HTW.out k hlt
      subst hao
      have HD : Hid (T.drop k = T[k] :: T.drop (k + 1)) := List.drop_eq_getElem_cons hlt
      have HST : ∃ s2, Hid (Rd.step s1 T[k] = .ok s2) ∧ Hid (Rd.run s2 (T.drop (k + 1)) = .ok ⟨xs, .start⟩) := by
        have h := hE.out
        rw [HD.out, Rd.run] at h
        cases hs : Rd.step s1 T[k] with
        | error e => rw [hs] at h; cases h
        | ok s2 => rw [hs] at h; exact ⟨s2, rfl, h⟩
      obtain ⟨s2, HS, HE2⟩ := HST
      have HTk1 : Hid (∀ hk : k + 1 < T.length, T.drop (k + 1) = T[k + 1] :: T.drop (k + 2)) := fun hk => List.drop_eq_getElem_cons hk
      clear hE HD
      replace t0 := cell_later hb.out t0
      replace t1 := cell_later hb.out t1
      replace t2 := cell_later hb.out t2
      generalize T[k] = t at *
      obtain ⟨tk, tx, tp⟩ := t
      simp only at t0 t1 t2
      obtain ⟨acc, md⟩ := s1
      simp only at *
      rcases Rd.step_ok HS.out with ⟨h1, h2, h3⟩ | ⟨l, h1, h2, h3⟩ | ⟨l, a, h1, h2, h3⟩ | ⟨l, a, h1, h2, h60, ha8, h3⟩ | ⟨l, a, h1, h2, h60, ha8, h3⟩
      · simp only at h1 h2
        subst h1; subst h2; subst h3
        have HRT : Hid (rt = []) := hM.out
        obtain ⟨t', r', hr', hk3⟩ := Rd.run_needs HE2.out
        have hk1 : k + 1 < T.length := by
          have := congrArg List.length hr'
          rw [List.length_drop, List.length_cons] at this
          omega
        have hk1i : ((k : Int) + 1) < (T.length : Int) := by omega
        obtain ⟨b', o', hbo, _, _, u0, _, _⟩ := HTW.out (k + 1) hk1
        cases hbo
        have hu : T[k + 1].kind = 3 := by
          have := HTk1.out hk1
          rw [hr'] at this
          have e := (List.cons.inj this).1
          rw [← e]; exact hk3
        rw [hu] at u0
        replace u0 := cell_later hb.out u0
        have HML : Hid (Gr.mdLR (.eq ⟨1, tx, tp⟩) tx rt) := ⟨rfl, HRT.out⟩
        clear hr' hk3 hu hM HS HRT t2
        go_wp2_with fail
        go_roundw
        case rel => exact ⟨k + 1, ⟨acc, .eq ⟨1, tx, tp⟩⟩, tx, rt, xo, xc, by omega, by go_num, rfl, rfl, rfl, by omega, HE2, HML, ho, hb⟩
        case measure => simp [intOf]; omega
      · simp only at h1 h2
        subst h1; subst h2; subst h3
        have HML : Hid (Gr.mdLR (.body l []) x rt) := hM.out
        clear hM HS t1 t2
        go_wp2_with fail
        go_roundw
        case rel => exact ⟨k + 1, ⟨acc, .body l []⟩, x, rt, xo, xc, by omega, by go_num, rfl, rfl, rfl, by omega, HE2, HML, ho, hb⟩
        case measure => simp [intOf]; omega
      · simp only at h1 h2
        subst h1; subst h3
        rcases h2 with h2 | h2
        · subst h2
          have hk1 : k + 1 < T.length := by
            refine Classical.byContradiction fun hn => ?_
            have := HE2.out
            rw [List.drop_of_length_le (by omega), Rd.run] at this
            cases this
          have hk1i : ((k : Int) + 1) < (T.length : Int) := by omega
          obtain ⟨b', o', hbo, _, _, u0, _, _⟩ := HTW.out (k + 1) hk1
          cases hbo
          have hu : (T[k + 1].kind == 3) = false := by
            have h := HE2.out
            rw [HTk1.out hk1] at h
            have := Rd.run_bars_not h
            simpa using this
          replace u0 := cell_later hb.out u0
          generalize T[k + 1].kind = uk at *
          have HML : Hid (Gr.mdLR (.body l (a ++ [⟨1, tx, tp⟩])) x (rt ++ [⟨1, tx, tp⟩])) := by
            obtain ⟨e1, e2⟩ := hM.out
            exact ⟨e1, by rw [e2]⟩
          clear hM HS
          go_wp2_with (at_builtin; refine wpList_append_tks (by rfl) _ _ rfl W.heap.size (.slice xo rt.length xc) rt.length (tksCells rt) rfl (ho.out.alloc _) ⟨wr.heap.size, 0, none⟩ 1 1 (tksCells [⟨1, tx, tp⟩]) rfl rfl ?c1 ?c2 (by decide) ?c3 ?c4 ?_)
          case c1 =>
            have := World.news_of_block (cs := #[.int .i64 1, .string tx, .int .i64 tp]) (t := 37) (fr := (0, 0)) (heap_alloc_new wr (.cells #[.int .i64 1, .string tx, .int .i64 tp] 37))
            first | exact this | exact fun j u h => h
          case c2 => exact tksCells_one _
          case c3 => omega
          case c4 => have := hb.out.size; first | omega | (simp; omega)
          intro g3 cap3 w3 hown3 hgrow3
          have HO3 : Hid (w3.ownsRow W.heap.size 37 3 (.slice (some ⟨g3, 0, none⟩) (rt ++ [(⟨1, tx, tp⟩ : Rd.Tk)]).length cap3) (rt ++ [(⟨1, tx, tp⟩ : Rd.Tk)]).length (tksCells (rt ++ [⟨1, tx, tp⟩]))) := by
            show World.ownsRow _ _ _ _ _ _ _
            rw [tksCells_append, show (rt ++ [(⟨1, tx, tp⟩ : Rd.Tk)]).length = rt.length + 1 from by simp]; exact hown3
          have HB3 : Hid (Below W.heap.size W w3) := (hb.out.alloc hb.out.size _).grown hgrow3 (by have := hb.out.size; simp; omega) (fun q hq => (ho.out.lt q hq).1)
          clear hown3 hgrow3 ho hb t0 t1 t2
          go_wp2_with fail
          go_roundw
          case rel => exact ⟨k + 1, ⟨acc, .body l (a ++ [⟨1, tx, tp⟩])⟩, x, rt ++ [⟨1, tx, tp⟩], some ⟨g3, 0, none⟩, cap3, by omega, by go_num, rfl, rfl, by simp, by simp; omega, HE2, HML, HO3, HB3⟩
          case measure => simp [intOf]; omega
        · subst h2
          have HML : Hid (Gr.mdLR (.body l (a ++ [⟨2, tx, tp⟩])) x (rt ++ [⟨2, tx, tp⟩])) := by
            obtain ⟨e1, e2⟩ := hM.out
            exact ⟨e1, by rw [e2]⟩
          clear hM HS
          go_wp2_with (at_builtin; refine wpList_append_tks (by rfl) _ _ rfl W.heap.size (.slice xo rt.length xc) rt.length (tksCells rt) rfl (ho.out.alloc _) ⟨wr.heap.size, 0, none⟩ 1 1 (tksCells [⟨2, tx, tp⟩]) rfl rfl ?c1 ?c2 (by decide) ?c3 ?c4 ?_)
          case c1 =>
            have := World.news_of_block (cs := #[.int .i64 2, .string tx, .int .i64 tp]) (t := 37) (fr := (0, 0)) (heap_alloc_new wr (.cells #[.int .i64 2, .string tx, .int .i64 tp] 37))
            first | exact this | exact fun j u h => h
          case c2 => exact tksCells_one _
          case c3 => omega
          case c4 => have := hb.out.size; first | omega | (simp; omega)
          intro g3 cap3 w3 hown3 hgrow3
          have HO3 : Hid (w3.ownsRow W.heap.size 37 3 (.slice (some ⟨g3, 0, none⟩) (rt ++ [(⟨2, tx, tp⟩ : Rd.Tk)]).length cap3) (rt ++ [(⟨2, tx, tp⟩ : Rd.Tk)]).length (tksCells (rt ++ [⟨2, tx, tp⟩]))) := by
            show World.ownsRow _ _ _ _ _ _ _
            rw [tksCells_append, show (rt ++ [(⟨2, tx, tp⟩ : Rd.Tk)]).length = rt.length + 1 from by simp]; exact hown3
          have HB3 : Hid (Below W.heap.size W w3) := (hb.out.alloc hb.out.size _).grown hgrow3 (by have := hb.out.size; simp; omega) (fun q hq => (ho.out.lt q hq).1)
          clear hown3 hgrow3 ho hb t0 t1 t2
          go_wp2_with fail
          go_roundw
          case rel => exact ⟨k + 1, ⟨acc, .body l (a ++ [⟨2, tx, tp⟩])⟩, x, rt ++ [⟨2, tx, tp⟩], some ⟨g3, 0, none⟩, cap3, by omega, by go_num, rfl, rfl, by simp, by simp; omega, HE2, HML, HO3, HB3⟩
          case measure => simp [intOf]; omega
      · simp only at h1 h2
        subst h1; subst h2; subst h3
        obtain ⟨hxl, hra⟩ := hM.out
        subst hxl; subst hra
        have hap : acc ++ [(l, rt)] <+: xs := Rd.run_accpre _ _ _ HE2.out
        have hmem : (l, rt) ∈ xs := hap.subset (by simp)
        have hRS : Gr.rules g.terms g.names (acc ++ [(l, rt)]) = Gr.put (Gr.rules g.terms g.names acc) (Gr.rule g.terms g.names (l, rt)) := by
          unfold Gr.rules; rw [List.foldl_append]; rfl
        have HP2 : Hid (Gr.put (Gr.rules g.terms g.names acc) (Gr.rule g.terms g.names (l, rt)) <+: g.rules) := by
          show _ <+: _
          have := Gr.rules_pre g.terms g.names xs (acc ++ [(l, rt)]).length
          rw [(List.prefix_iff_eq_take.1 hap).symm, ← HMF.out.rls] at this
          rw [← hRS]; exact this
        have HRS : Hid (Gr.rules g.terms g.names (acc ++ [(l, rt)]) = Gr.put (Gr.rules g.terms g.names acc) (Gr.rule g.terms g.names (l, rt))) := hRS
        have HIS : Hid (∀ (q : Nat) (hq : q < g.rules.length) (r : Bool) (V : World), Below W.heap.size W V → TksAt V.heap.size V xo rt → decide (g.rules[q] = Gr.rule g.terms g.names (l, rt)) = r →
            Calls Try.prog 13 #[.agg (gmCells g ⟨ta, tc, na, nc, ra, rc⟩), .int .i64 q, .string l.text, .slice xo rt.length xc] V fun e w' => e = .returned (.bool r) ∧ Below V.heap.size V w') :=
          fun q hq r V hV hTV hr => is_is r g _ q hq l.text xo xc rt V ⟨by have := HMF.out.t40; omega, by have := HMF.out.t40; omega, by omega⟩ (by omega) (by have := HMF.out.r8 _ (List.getElem_mem hq); omega)
            (fun s hs => by have := HMF.out.tsz s hs; omega) (fun s hs => by have := HMF.out.nsz s hs; omega) (HGW.out.next hV) hTV (by rw [HMF.out.alt (l, rt) hmem]; exact hr)
        simp only [gmCells] at HIS
        clear hM HS hap hmem hRS t1 t2 HACC
        generalize HRN : Gr.rules g.terms g.names (acc ++ [(l, rt)]) = R2 at *
        generalize Gr.rules g.terms g.names acc = R at *
        generalize Gr.rule g.terms g.names (l, rt) = rl at *
        go_wp2_with fail
        clear t0
        obtain ⟨V0, rfl⟩ : ∃ V0 : World, V0 = wr := ⟨_, rfl⟩
        go_loopw [11, 12] (fun cv kv wi => ∃ q : Nat, q ≤ R.length ∧ kv = .int .i64 q ∧ cv = .bool (Gr.has rl (R.take q)) ∧ Hid (Below V0.heap.size V0 wi)) (fun _ kv _ => R.length - (intOf kv).toNat)
        case atStart => exact ⟨0, Nat.zero_le _, rfl, rfl, Below.refl _ _⟩
        case round =>
          obtain ⟨q, hq, rfl, rfl, hbq⟩ := hrel
          have HBQ : Hid (Below W.heap.size W wr) := hb.out.trans (hbq.out.mono hb.out.size)
          have HOQ : Hid (wr.ownsRow W.heap.size 37 3 (.slice xo rt.length xc) rt.length (tksCells rt)) := ownsRow_below ho.out hbq.out
          have g0 := cell_later HBQ.out HG3.out.1
          have g1 := cell_later HBQ.out HG3.out.2.1
          have g2 := cell_later HBQ.out HG3.out.2.2
          by_cases hqr : q < R.length
          · have hqi : (q : Int) < (R.length : Int) := by omega
            have hqg : q < g.rules.length := by omega
            have hST := Gr.has_step rl R q hqr
            have hRq : g.rules[q] = R[q] := by
              obtain ⟨z, hz⟩ := HPRE.out
              simp only [← hz]
              exact List.getElem_append_left hqr
            have HIQ : Hid (∀ (V : World), Below W.heap.size W V → TksAt V.heap.size V xo rt → _) := fun V h1 h2 => HIS.out q hqg _ V h1 h2 (by rw [hRq])
            have HTQ : Hid (TksAt wr.heap.size wr xo rt) := by
              obtain ⟨xo', xc', e, h1, _⟩ := tks_read HOQ.out
              cases e; exact h1
            have HST : Hid (Gr.has rl (R.take (q + 1)) = (Gr.has rl (R.take q) || decide (R[q] = rl))) := hST
            clear hST hRq
            generalize decide (R[q] = rl) = r at *
            generalize Gr.has rl (R.take q) = c at *
            cases c
            · go_wp2_with (first | (go_at_call 13; refine (HIQ.out _ HBQ.out HTQ.out).mono ?_; rintro e w4 ⟨rfl, hb4⟩))
              go_roundw
              case rel => exact ⟨q + 1, by omega, by go_num, by rw [HST.out]; rfl, hbq.out.trans (hb4.mono hbq.out.size)⟩
              case measure => simp [intOf]; omega
            · go_wp2_with fail
              go_roundw
              case rel => exact ⟨q + 1, by omega, by go_num, by rw [HST.out]; rfl, hbq⟩
              case measure => simp [intOf]; omega
          · have hqe : q = R.length := by omega
            have HTK : Hid (R.take q = R) := by show _ = _; rw [hqe, List.take_length]
            rw [HTK.out]
            have hqi : ((q : Int) < (R.length : Int)) = False := by simp; omega
            have HON : Hid (wr.ownsRow W.heap.size 37 3 (.slice none 0 0) 0 (tksCells [])) := World.ownsRow_nil _ _ _ _
            cases hc : Gr.has rl R
            · have hni : rl ∉ R := by
                intro hm
                exact Gr.has_no hc hm
              have hp2 := HP2.out
              rw [Gr.put_new hni] at hp2
              have hRg : R.length < g.rules.length := by have := hp2.length_le; simp at this; omega
              have hgR : g.rules[R.length] = rl := by
                obtain ⟨z, hz⟩ := hp2
                simp only [← hz]
                rw [List.getElem_append_left (by simp)]; simp
              have HIR : Hid (∀ (V : World), Below W.heap.size W V → TksAt V.heap.size V xo rt → _) := fun V h1 h2 => HIS.out R.length hRg true V h1 h2 (by rw [hgR]; simp)
              have HTQ : Hid (TksAt wr.heap.size wr xo rt) := by
                obtain ⟨xo', xc', e, h1, _⟩ := tks_read HOQ.out
                cases e; exact h1
              have HR2 : Hid (R2.length = R.length + 1) := by show _ = _; rw [HRS.out, Gr.put_new hni]; simp
              have hRgi : decide ((g.rules.length : Int) ≤ (R.length : Int)) = false := decide_eq_false (by omega)
              clear hni hp2 hgR hc HP2 HIS HRS
              go_wp2_with (first | (go_at_call 13; refine (HIR.out _ HBQ.out HTQ.out).mono ?_; rintro e w4 ⟨rfl, hb4⟩))
              go_roundw
              case rel => exact ⟨k + 1, ⟨acc ++ [(l, rt)], .body l []⟩, l.text, [], none, 0, by omega, by go_num, by rw [HRN, HR2.out]; go_num, rfl, rfl, by simp, HE2, ⟨rfl, rfl⟩, World.ownsRow_nil _ _ _ _, HBQ.out.trans (hb4.mono HBQ.out.size)⟩
              case measure => simp [intOf]; omega
            · have HR2 : Hid (R2.length = R.length) := by show _ = _; rw [HRS.out, Gr.put_in (Gr.has_yes hc)]
              clear hc HP2 HIS HRS
              go_wp2_with fail
              go_roundw
              case rel => exact ⟨k + 1, ⟨acc ++ [(l, rt)], .body l []⟩, l.text, [], none, 0, by omega, by go_num, by rw [HRN, HR2.out], rfl, rfl, by simp, HE2, ⟨rfl, rfl⟩, World.ownsRow_nil _ _ _ _, HBQ⟩
              case measure => simp [intOf]; omega
      · simp only at h1 h2
        subst h1; subst h2; subst h3
        obtain ⟨hxl, hra⟩ := hM.out
        subst hxl; subst hra
        have hap : acc ++ [(l, rt)] <+: xs := Rd.run_accpre _ _ _ HE2.out
        have hmem : (l, rt) ∈ xs := hap.subset (by simp)
        have hRS : Gr.rules g.terms g.names (acc ++ [(l, rt)]) = Gr.put (Gr.rules g.terms g.names acc) (Gr.rule g.terms g.names (l, rt)) := by
          unfold Gr.rules; rw [List.foldl_append]; rfl
        have HP2 : Hid (Gr.put (Gr.rules g.terms g.names acc) (Gr.rule g.terms g.names (l, rt)) <+: g.rules) := by
          show _ <+: _
          have := Gr.rules_pre g.terms g.names xs (acc ++ [(l, rt)]).length
          rw [(List.prefix_iff_eq_take.1 hap).symm, ← HMF.out.rls] at this
          rw [← hRS]; exact this
        have HRS : Hid (Gr.rules g.terms g.names (acc ++ [(l, rt)]) = Gr.put (Gr.rules g.terms g.names acc) (Gr.rule g.terms g.names (l, rt))) := hRS
        have HIS : Hid (∀ (q : Nat) (hq : q < g.rules.length) (r : Bool) (V : World), Below W.heap.size W V → TksAt V.heap.size V xo rt → decide (g.rules[q] = Gr.rule g.terms g.names (l, rt)) = r →
            Calls Try.prog 13 #[.agg (gmCells g ⟨ta, tc, na, nc, ra, rc⟩), .int .i64 q, .string l.text, .slice xo rt.length xc] V fun e w' => e = .returned (.bool r) ∧ Below V.heap.size V w') :=
          fun q hq r V hV hTV hr => is_is r g _ q hq l.text xo xc rt V ⟨by have := HMF.out.t40; omega, by have := HMF.out.t40; omega, by omega⟩ (by omega) (by have := HMF.out.r8 _ (List.getElem_mem hq); omega)
            (fun s hs => by have := HMF.out.tsz s hs; omega) (fun s hs => by have := HMF.out.nsz s hs; omega) (HGW.out.next hV) hTV (by rw [HMF.out.alt (l, rt) hmem]; exact hr)
        simp only [gmCells] at HIS
        clear hM HS hap hmem hRS t1 t2 HACC
        generalize HRN : Gr.rules g.terms g.names (acc ++ [(l, rt)]) = R2 at *
        generalize Gr.rules g.terms g.names acc = R at *
        generalize Gr.rule g.terms g.names (l, rt) = rl at *
        go_wp2_with fail
        clear t0
        obtain ⟨V0, rfl⟩ : ∃ V0 : World, V0 = wr := ⟨_, rfl⟩
        go_loopw [11, 12] (fun cv kv wi => ∃ q : Nat, q ≤ R.length ∧ kv = .int .i64 q ∧ cv = .bool (Gr.has rl (R.take q)) ∧ Hid (Below V0.heap.size V0 wi)) (fun _ kv _ => R.length - (intOf kv).toNat)
        case atStart => exact ⟨0, Nat.zero_le _, rfl, rfl, Below.refl _ _⟩
        case round =>
          obtain ⟨q, hq, rfl, rfl, hbq⟩ := hrel
          have HBQ : Hid (Below W.heap.size W wr) := hb.out.trans (hbq.out.mono hb.out.size)
          have HOQ : Hid (wr.ownsRow W.heap.size 37 3 (.slice xo rt.length xc) rt.length (tksCells rt)) := ownsRow_below ho.out hbq.out
          have g0 := cell_later HBQ.out HG3.out.1
          have g1 := cell_later HBQ.out HG3.out.2.1
          have g2 := cell_later HBQ.out HG3.out.2.2
          by_cases hqr : q < R.length
          · have hqi : (q : Int) < (R.length : Int) := by omega
            have hqg : q < g.rules.length := by omega
            have hST := Gr.has_step rl R q hqr
            have hRq : g.rules[q] = R[q] := by
              obtain ⟨z, hz⟩ := HPRE.out
              simp only [← hz]
              exact List.getElem_append_left hqr
            have HIQ : Hid (∀ (V : World), Below W.heap.size W V → TksAt V.heap.size V xo rt → _) := fun V h1 h2 => HIS.out q hqg _ V h1 h2 (by rw [hRq])
            have HTQ : Hid (TksAt wr.heap.size wr xo rt) := by
              obtain ⟨xo', xc', e, h1, _⟩ := tks_read HOQ.out
              cases e; exact h1
            have HST : Hid (Gr.has rl (R.take (q + 1)) = (Gr.has rl (R.take q) || decide (R[q] = rl))) := hST
            clear hST hRq
            generalize decide (R[q] = rl) = r at *
            generalize Gr.has rl (R.take q) = c at *
            cases c
            · go_wp2_with (first | (go_at_call 13; refine (HIQ.out _ HBQ.out HTQ.out).mono ?_; rintro e w4 ⟨rfl, hb4⟩))
              go_roundw
              case rel => exact ⟨q + 1, by omega, by go_num, by rw [HST.out]; rfl, hbq.out.trans (hb4.mono hbq.out.size)⟩
              case measure => simp [intOf]; omega
            · go_wp2_with fail
              go_roundw
              case rel => exact ⟨q + 1, by omega, by go_num, by rw [HST.out]; rfl, hbq⟩
              case measure => simp [intOf]; omega
          · have hqe : q = R.length := by omega
            have HTK : Hid (R.take q = R) := by show _ = _; rw [hqe, List.take_length]
            rw [HTK.out]
            have hqi : ((q : Int) < (R.length : Int)) = False := by simp; omega
            have HON : Hid (wr.ownsRow W.heap.size 37 3 (.slice none 0 0) 0 (tksCells [])) := World.ownsRow_nil _ _ _ _
            cases hc : Gr.has rl R
            · have hni : rl ∉ R := by
                intro hm
                exact Gr.has_no hc hm
              have hp2 := HP2.out
              rw [Gr.put_new hni] at hp2
              have hRg : R.length < g.rules.length := by have := hp2.length_le; simp at this; omega
              have hgR : g.rules[R.length] = rl := by
                obtain ⟨z, hz⟩ := hp2
                simp only [← hz]
                rw [List.getElem_append_left (by simp)]; simp
              have HIR : Hid (∀ (V : World), Below W.heap.size W V → TksAt V.heap.size V xo rt → _) := fun V h1 h2 => HIS.out R.length hRg true V h1 h2 (by rw [hgR]; simp)
              have HTQ : Hid (TksAt wr.heap.size wr xo rt) := by
                obtain ⟨xo', xc', e, h1, _⟩ := tks_read HOQ.out
                cases e; exact h1
              have HR2 : Hid (R2.length = R.length + 1) := by show _ = _; rw [HRS.out, Gr.put_new hni]; simp
              have hRgi : decide ((g.rules.length : Int) ≤ (R.length : Int)) = false := decide_eq_false (by omega)
              clear hni hp2 hgR hc HP2 HIS HRS
              go_wp2_with (first | (go_at_call 13; refine (HIR.out _ HBQ.out HTQ.out).mono ?_; rintro e w4 ⟨rfl, hb4⟩))
              go_roundw
              case rel => exact ⟨k + 1, ⟨acc ++ [(l, rt)], .start⟩, l.text, [], none, 0, by omega, by go_num, by rw [HRN, HR2.out]; go_num, rfl, rfl, by simp, HE2, rfl, World.ownsRow_nil _ _ _ _, HBQ.out.trans (hb4.mono HBQ.out.size)⟩
              case measure => simp [intOf]; omega
            · have HR2 : Hid (R2.length = R.length) := by show _ = _; rw [HRS.out, Gr.put_in (Gr.has_yes hc)]
              clear hc HP2 HIS HRS
              go_wp2_with fail
              go_roundw
              case rel => exact ⟨k + 1, ⟨acc ++ [(l, rt)], .start⟩, l.text, [], none, 0, by omega, by go_num, by rw [HRN, HR2.out], rfl, rfl, by simp, HE2, rfl, World.ownsRow_nil _ _ _ _, HBQ⟩
              case measure => simp [intOf]; omega
    · have HF : Hid ((Gr.rules g.terms g.names s1.acc).length = g.rules.length) := by
        show _ = _
        have := hE.out
        rw [List.drop_of_length_le (by omega), Rd.run] at this
        cases this
        rw [← HMF.out.rls]
      rw [HF.out]
      have hfin : ((g.rules.length : Int) == (g.rules.length : Int)) = true := by simp
      have g2 := cell_later hb.out HG3.out.2.2
      clear hE hM ho
      go_wp2_with (first | (go_at_call 9; refine (gwakes_any _).mono ?_; rintro e w5 ⟨rfl, hb5⟩))
      go_ret
      exact ⟨rfl, (HBW.out.trans (hb.out.mono HBW.out.size)).trans (hb5.mono (by have := HBW.out.size; have := hb.out.size; omega))⟩

theorem grammarMay_walk (s : ByteArray) (w : World) (hs : s.size ≤ maxLen) :
    Calls Try.prog 3 #[.string s] w fun e w' => e = .returned (.bool true) ∧ Below w.heap.size w w' := by
  have hd : s.data.toList.length = s.size := by simp
  by_cases h2 : 2000 < s.size
  · exact grammarMay_out s w hs (.inl h2)
  · rcases ofS_cases s.data.toList with ⟨n, a, hn, h0, h1, hG⟩ | ⟨g, us, xs, h1, hT, ht, _, h3, hne, h60, h8, ho, hg⟩
    · exact grammarMay_out s w hs (.inr ⟨by omega, n, a, hn, h0, by omega, hG⟩)
    · have hal := Rd.alts_mem Gr.tkGood h3 (fun t ht' => (tkOf_good ht t ht').1)
      have hmf := Gr.mf_of hal h8 ho hg
      have hsz := of_decide_eq_true (Gr.good_parts hg).1
      exact grammarMay_in s w hs (by omega) g us xs h1 hT (by have := Lx.tokens_count ht; omega) h3 (by omega) hg hmf
end Go.Proofs.Ytimjopaedfefmaa
