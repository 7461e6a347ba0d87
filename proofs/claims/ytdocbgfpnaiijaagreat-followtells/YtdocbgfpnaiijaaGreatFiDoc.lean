/-
  The document's own answers for layer 8: table, list, Of.
-/
import Derived.Test.YtdocbgfpnaiijaaGreatRowsLib
import Derived.Test.YtdocbgfpnaiijaaGreatFiMath2
import Derived.Test.YtdocbgfpnaiijaaGreatNlRefs
import Derived.Test.YtdocbgfpnaiijaaGreatGrGood6
import Derived.Test.YtdocbgfpnaiijaaGreatFiSets
import Derived.Test.YtdocbgfpnaiijaaGreatSchRef
import Derived.Test.YtdocbgfpnaiijaaGreatRuleLib
namespace Go.Proofs.YtdocbgfpnaiijaaGreat
open Go.RowKit Go.Conc

set_option maxHeartbeats 1600000 in
theorem reflist_any (bs : List Bool) (bo : Option Addr) (bc : Nat) (w : World) (hb : BoolsAt w.heap.size w bo bs) (hl : bs.length ≤ 1000) :
    Calls Tryz.prog 55 #[.slice bo bs.length bc] w fun e w' => ∃ v, e = .returned v ∧ Hid (OwnInts w.heap.size w' v (Fi.rise bs)) ∧ Hid (Below w.heap.size w w') := by
  have HB : Hid _ := hb
  clear hb
  go_enter Tryz.func55, Tryz.ntmps55
  go_wp2_with fail
  go_loopw [3, 4] (fun l i wr => ∃ (q : Nat) (xo : Option Addr) (xc : Nat), q ≤ bs.length ∧ i = .int .i64 q ∧ l = .slice xo (Fi.riseTo bs q).length xc ∧ Hid (OwnInts w.heap.size wr (.slice xo (Fi.riseTo bs q).length xc) (Fi.riseTo bs q)) ∧ Hid (Below w.heap.size w wr)) (fun _ i _ => bs.length - (intOf i).toNat)
  case atStart => exact ⟨0, none, 0, Nat.zero_le _, rfl, rfl, World.ownsRow_nil _ _ _ _, Below.refl _ w⟩
  case round =>
    obtain ⟨q, xo, xc, hq, rfl, rfl, hO, hW⟩ := hrel
    by_cases hlt : q < bs.length
    · obtain ⟨b, o, rfl, _, _, c0⟩ := BoolsAt.get (BoolsAt.later HB.out hW.out) q hlt
      have ST := Fi.riseTo_succ bs q
      rw [List.getD_eq_getElem?_getD, List.getElem?_eq_getElem hlt, Option.getD_some] at ST
      have hrl := Fi.riseTo_len bs q
      generalize bs[q] = y at *
      cases y
      · have R : Hid (Fi.riseTo bs (q + 1) = Fi.riseTo bs q) := by show _ = _; rw [ST]; simp
        clear ST
        go_wp2_with fail
        go_roundw
        case rel => exact ⟨q + 1, xo, xc, by omega, by go_num, by rw [R.out], by show OwnInts _ _ _ _; rw [R.out]; exact hO.out, hW⟩
        case measure => simp [intOf]; omega
      · have R : Hid (Fi.riseTo bs (q + 1) = Fi.riseTo bs q ++ [(q : Int)]) := by show _ = _; rw [ST]; simp
        have hb2 : Hid (Below wr.heap.size wr (wr.alloc (Obj.cells #[.int .i64 (q : Int)] 3))) := (Below.refl _ wr).alloc (Nat.le_refl _) _
        have HO2 : Hid (OwnInts w.heap.size (wr.alloc (Obj.cells #[.int .i64 (q : Int)] 3)) (.slice xo (Fi.riseTo bs q).length xc) (Fi.riseTo bs q)) := ownsRow_below hO.out hb2.out
        have hbase : w.heap.size ≤ (wr.alloc (Obj.cells #[.int .i64 (q : Int)] 3)).heap.size := Nat.le_trans hW.out.size hb2.out.size
        have HB2 : Hid _ := hW.out.trans (hb2.out.mono hW.out.size)
        clear ST hO
        generalize hts : Fi.riseTo bs q = ts at *
        go_wp2_with (first
          | (at_builtin; refine wpList_append_oint rfl _ _ rfl w.heap.size _ ts rfl HO2.out wr.heap.size 1 q rfl (by simp [go_sem]) (by omega) hbase ?_; intro ga cap w3 ho3 hg3))
        have HB3 : Hid (Below w.heap.size w w3) := HB2.out.grown hg3 hbase (fun k hk => (HO2.out.lt k hk).1)
        have HO3 : Hid (OwnInts w.heap.size w3 (.slice (some ⟨ga, 0, none⟩) (Fi.riseTo bs (q + 1)).length cap) (Fi.riseTo bs (q + 1))) := by
          show OwnInts _ _ _ _
          rw [R.out, List.length_append]; exact ho3
        have hlen : ts.length + 1 = (Fi.riseTo bs (q + 1)).length := by rw [R.out, List.length_append]; rfl
        rw [hlen]
        clear ho3 hg3 hts
        go_roundw
        case rel => exact ⟨q + 1, _, _, by omega, by go_num, rfl, HO3, HB3⟩
        case measure => simp [intOf]; omega
    · obtain rfl : q = bs.length := by omega
      go_wp2_with fail
      go_ret
      exact ⟨_, rfl, hO, hW⟩
/-- headers of rows, some of which are laid -/
def hdrs8 (Bs : List Nat) (T n : Nat) : List Value := Bs.map (fun b => Value.slice (some ⟨b, 0, none⟩) T T) ++ List.replicate (n - Bs.length) (Value.slice none 0 0)
theorem hdrs8_len (Bs : List Nat) (T n : Nat) (h : Bs.length ≤ n) : (hdrs8 Bs T n).length = n := by simp [hdrs8]; omega
theorem hdrs8_set (Bs : List Nat) (T n B : Nat) (h : Bs.length < n) : (hdrs8 Bs T n).set Bs.length (.slice (some ⟨B, 0, none⟩) T T) = hdrs8 (Bs ++ [B]) T n := by
  unfold hdrs8
  have e : n - Bs.length = (n - (Bs ++ [B]).length) + 1 := by simp; omega
  rw [e, List.replicate_succ, List.set_append_right _ _ (by simp)]
  simp
theorem hdrs8_full (Bs : List Nat) (T n : Nat) (h : Bs.length = n) : hdrs8 Bs T n = Bs.map (fun b => Value.slice (some ⟨b, 0, none⟩) T T) := by simp [hdrs8, h]
/-- amid the table's making: the headers, the rows that there are -/
structure TRows (W3 wr : World) (S T n : Nat) (Bs : List Nat) (rs : List (List Bool)) : Prop where
  but : ButL [S] W3 wr
  sb : wr.heap[S]? = some (.cells (hdrs8 Bs T n).toArray 35 (0, 0))
  len : Bs.length = rs.length
  row : ∀ i (hi : i < Bs.length), W3.heap.size ≤ Bs[i] ∧ wr.heap[Bs[i]]? = some (.cells ((rs.getD i []).map Value.bool).toArray 4 (0, 0))
  nodup : Bs.Nodup
theorem TRows.done {W3 wr : World} {S T n : Nat} {Bs : List Nat} {rs : List (List Bool)} (h : TRows W3 wr S T n Bs rs) (hl : Bs.length = n) (he : ∀ r ∈ rs, r.length = T) : RowsAt S T Bs rs wr :=
  ⟨by rw [h.sb, hdrs8_full Bs T n hl], h.len, fun i hi => (h.row i hi).2, he, h.nodup⟩
theorem TRows.lt {W3 wr : World} {S T n : Nat} {Bs : List Nat} {rs : List (List Bool)} (h : TRows W3 wr S T n Bs rs) : ∀ b ∈ Bs, W3.heap.size ≤ b ∧ b < wr.heap.size := fun b hb => by
  obtain ⟨i, hi, rfl⟩ := List.getElem_of_mem hb
  exact ⟨(h.row i hi).1, (Array.getElem?_eq_some_iff.1 (h.row i hi).2).1⟩
theorem TRows.push {W3 wr w1 : World} {S T n B : Nat} {Bs : List Nat} {rs : List (List Bool)} {r : List Bool} (h : TRows W3 wr S T n Bs rs) (hn : Bs.length < n) (hL : Below wr.heap.size wr w1) (hB : wr.heap.size ≤ B) (hk : w1.heap[B]? = some (.cells (r.map Value.bool).toArray 4 (0, 0))) (hS : S < W3.heap.size) :
    TRows W3 (w1.setCell ⟨S, Bs.length, none⟩ (.slice (some ⟨B, 0, none⟩) T T)) S T n (Bs ++ [B]) (rs ++ [r]) := by
  have hSl := (Array.getElem?_eq_some_iff.1 h.sb).1
  have hs := h.but.size
  refine ⟨(h.but.trans (ButL.of hL)).setCell (List.mem_cons_self ..) _ _, ?_, by simp [h.len], fun i hi => ?_, ?_⟩
  · have h1 : w1.heap[S]? = some (.cells (hdrs8 Bs T n).toArray 35 (0, 0)) := (hL.block _ hSl).trans h.sb
    rw [← hdrs8_set Bs T n B hn]
    simp [World.setCell, Array.getElem?_modify, h1]
  · by_cases e : i < Bs.length
    · have hq := h.row i e
      have hbl := (Array.getElem?_eq_some_iff.1 hq.2).1
      have hb1 := hq.1
      rw [List.getElem_append_left e, show (rs ++ [r]).getD i [] = rs.getD i [] from by simp [List.getD_eq_getElem?_getD, List.getElem?_append_left (show i < rs.length by rw [← h.len]; exact e)]]
      exact ⟨hq.1, (Below.heap_setCell _ _ _ _ (by show Bs[i] ≠ S; omega)).trans ((hL.block _ hbl).trans hq.2)⟩
    · have hi' : i = Bs.length := by simp at hi; omega
      subst hi'
      have e3 : (rs ++ [r]).getD Bs.length [] = r := by rw [h.len]; simp
      have e2 : (Bs ++ [B])[Bs.length]'hi = B := by simp
      rw [e2, e3]
      exact ⟨by omega, (Below.heap_setCell _ _ _ _ (by show B ≠ S; omega)).trans hk⟩
  · rw [List.nodup_append]
    refine ⟨h.nodup, by simp, fun a ha b hb => ?_⟩
    rw [List.mem_singleton] at hb
    have := (h.lt a ha).2
    omega
theorem TRows.set {W3 wr : World} {S T n : Nat} {Bs : List Nat} {rs : List (List Bool)} (h : TRows W3 wr S T n Bs rs) (hS : S < W3.heap.size) (k : Nat) (hk : k < Bs.length) (t : Nat) : TRows W3 (wr.setCell ⟨Bs[k], t, none⟩ (.bool true)) S T n Bs (rs.set k (Nl.tell (rs.getD k []) (t : Int))) := by
  have hkr : k < rs.length := by rw [← h.len]; exact hk
  have hb := h.row k hk
  refine ⟨⟨h.but.os, h.but.tape, h.but.output, by rw [size_setCell]; exact h.but.size, fun q hq hn => (Below.heap_setCell _ _ _ _ (by show q ≠ Bs[k]; omega)).trans (h.but.block q hq hn)⟩, (Below.heap_setCell _ _ _ _ (by show S ≠ Bs[k]; omega)).trans h.sb, by simp [h.len], fun i hi => ⟨(h.row i hi).1, ?_⟩, h.nodup⟩
  by_cases e : i = k
  · subst e
    rw [show (rs.set i (Nl.tell (rs.getD i []) (t : Int))).getD i [] = Nl.tell (rs.getD i []) (t : Int) from by simp [hkr]]
    simp [World.setCell, Array.getElem?_modify, hb.2, Nl.tell, List.map_set]
  · have hne : Bs[i] ≠ Bs[k] := fun q => e ((List.getElem_inj h.nodup).1 q)
    rw [Below.heap_setCell _ _ _ _ hne, (h.row i hi).2]
    have hki : ¬ k = i := fun q => e q.symm
    rw [show (rs.set k (Nl.tell (rs.getD k []) (t : Int))).getD i [] = rs.getD i [] from by simp [hki]]

/-- how much may still change -/
def tmeas (n T S : Nat) (c : Value) (wr : World) : Nat := 2 * (n * T - Fi.cnt2 (rowsOf S wr)) + (match c with | .bool true => 1 | _ => 0)

set_option maxRecDepth 100000 in
set_option maxHeartbeats 6400000 in
theorem reftable_any (g : Gr.Gm) (A : GA) (n : Nat) (w : World) (hn : g.terms.length + g.names.length = n) (hg : Gr.good g = true) (hm : ∀ x ∈ g.rules, x.2.length ≤ maxLen) (h : GmAt w.heap.size w g A) :
    Calls Tryz.prog 53 #[.agg (gmCells g A)] w fun e w' => ∃ S, e = .returned (.slice (some ⟨S, 0, none⟩) n n) ∧ (∃ Bs, Hid (RowsAt S g.terms.length Bs (Fi.rows g.rules (Nl.of g) g.terms.length n) w')) ∧ Hid (Below w.heap.size w w') := by
  obtain ⟨ta, tc, na, nc, ra, rac⟩ := A
  have HG : Hid (GmAt w.heap.size w g ⟨ta, tc, na, nc, ra, rac⟩) := h
  have HF0 := Nl.fit_of hg
  rw [hn] at HF0
  have HF : Hid (Nl.Fit g.terms.length n g.rules) := HF0
  obtain ⟨hsz, h8⟩ := Nl.sizes_of hg
  have H8 : Hid _ := h8
  have hnI : (g.terms.length : Int) + (g.names.length : Int) = (n : Int) := by omega
  have hln : (Nl.of g).length = n := by rw [Nl.of_len hg, hn]
  have HO : Hid (∀ W : World, Below w.heap.size w W → Calls Tryz.prog 54 #[.agg (gmCells g ⟨ta, tc, na, nc, ra, rac⟩)] W fun e w' => ∃ ao c, e = .returned (.slice ao (Nl.of g).length c) ∧ Hid (BoolsAt w'.heap.size w' ao (Nl.of g)) ∧ Hid (Below W.heap.size W w')) := fun W hW => refOf6_is g _ W hm (HG.out.next hW)
  have hbW : Hid (Below w.heap.size w (w.alloc (Obj.cells #[.slice ta g.terms.length tc, .slice na g.names.length nc, .slice ra g.rules.length rac] 25))) := (Below.refl _ w).alloc (Nat.le_refl _) _
  have B0 : Hid ((w.alloc (Obj.cells #[.slice ta g.terms.length tc, .slice na g.names.length nc, .slice ra g.rules.length rac] 25)).heap[w.heap.size]? = some (.cells #[.slice ta g.terms.length tc, .slice na g.names.length nc, .slice ra g.rules.length rac] 25 (0, 0))) := heap_alloc_new w _
  have hmb := make_rowsB (n : Int) n rfl (by omega)
  have hmT := make_boolsN g.terms.length (by omega)
  rw [hln] at HO
  clear h hm h8 HF0
  simp only [gmCells] at HO ⊢
  go_enter Tryz.func53, Tryz.ntmps53
  go_wp2_with (go_at_call 54; fail)
  generalize (w.alloc (Obj.cells #[.slice ta g.terms.length tc, .slice na g.names.length nc, .slice ra g.rules.length rac] 25)) = W at *
  refine Calls.mono (HO.out _ hbW.out) ?_
  rintro e w1 ⟨no, nnc, rfl, hnul, hb1⟩
  have HB1 : Hid (Below w.heap.size w w1) := hbW.out.trans (hb1.out.mono hbW.out.size)
  have B1 : Hid _ := (hb1.out.block _ (Array.getElem?_eq_some_iff.1 B0.out).1).trans B0.out
  clear hb1 B0 hbW HO
  go_upto_region 4 with fail
  have hb2 : Hid (Below w1.heap.size w1 (w1.alloc (.cells (Array.replicate n (Value.slice none 0 0)) 35))) := (Below.refl _ w1).alloc (Nat.le_refl _) _
  have s2 : Hid ((w1.alloc (.cells (Array.replicate n (Value.slice none 0 0)) 35)).heap[w1.heap.size]? = some (.cells (Array.replicate n (Value.slice none 0 0)) 35 (0, 0))) := heap_alloc_new w1 _
  generalize (w1.alloc (.cells (Array.replicate n (Value.slice none 0 0)) 35)) = W3 at *
  have HS1 : Hid (w.heap.size < w1.heap.size) := (Array.getElem?_eq_some_iff.1 B1.out).1
  have HB3 : Hid (Below w.heap.size w W3) := HB1.out.trans (hb2.out.mono HB1.out.size)
  have gb3 : Hid (W3.heap[w.heap.size]? = some (.cells #[.slice ta g.terms.length tc, .slice na g.names.length nc, .slice ra g.rules.length rac] 25 (0, 0))) := (hb2.out.block _ (Array.getElem?_eq_some_iff.1 B1.out).1).trans B1.out
  have nul3 : Hid (BoolsAt w1.heap.size W3 no (Nl.of g)) := hnul.out.later hb2.out
  generalize w1.heap.size = S at *
  clear hnul B1 HB1 hb2
  have hS3 := (Array.getElem?_eq_some_iff.1 s2.out).1
  go_wp2_with fail
  go_loopw [6] (fun i wr => ∃ (k : Nat) (Bs : List Nat), k ≤ n ∧ i = .int .i64 k ∧ Bs.length = k ∧ Hid (TRows W3 wr S g.terms.length n Bs (Fi.own1 g.terms.length k))) (fun i _ => n - (intOf i).toNat)
  case atStart => exact ⟨0, [], Nat.zero_le _, rfl, rfl, ⟨ButL.refl _ _, by rw [s2.out]; simp [hdrs8], rfl, fun i hi => by simp at hi, List.nodup_nil⟩⟩
  case round =>
    obtain ⟨k, Bs, hk, rfl, hBs, hR⟩ := hrel
    have hgb : Hid _ := (hR.out.but.block w.heap.size (Array.getElem?_eq_some_iff.1 gb3.out).1 (by have := HS1.out; simp; omega)).trans gb3.out
    obtain ⟨g0, g1, g2, _⟩ := cells_three_z hgb.out
    have hgl := (Array.getElem?_eq_some_iff.1 hgb.out).1
    by_cases hkl : k < n
    · have hki : (k : Int) < (n : Int) := by omega
      have hSl := (Array.getElem?_eq_some_iff.1 hR.out.sb).1
      have hkh : k < (hdrs8 Bs g.terms.length n).length := by rw [hdrs8_len _ _ _ (by omega)]; exact hkl
      have c0 : wr.cell? ⟨S, k, none⟩ = some ((hdrs8 Bs g.terms.length n)[k]) := by simp [World.cell?, hR.out.sb, hkh]
      have f0 : wr.frozen? ⟨S, k, none⟩ = false := by simp [World.frozen?, hR.out.sb]
      have hb4 : Hid (Below wr.heap.size wr (wr.alloc (.cells (Array.replicate g.terms.length (Value.bool false)) 4))) := (Below.refl _ wr).alloc (Nat.le_refl _) _
      have N1 : Hid (TRows W3 ((wr.alloc (.cells (Array.replicate g.terms.length (Value.bool false)) 4)).setCell ⟨S, k, none⟩ (.slice (some ⟨wr.heap.size, 0, none⟩) g.terms.length g.terms.length)) S g.terms.length n (Bs ++ [wr.heap.size]) (Fi.own1 g.terms.length k ++ [List.replicate g.terms.length false])) := by
        have := hR.out.push (B := wr.heap.size) (r := List.replicate g.terms.length false) (by omega) hb4.out (Nat.le_refl _) (by rw [heap_alloc_new]; simp) hS3
        rw [hBs] at this
        exact this
      have N0 : Hid (TRows W3 ((wr.setCell ⟨S, k, none⟩ (.slice (some ⟨wr.heap.size, 0, none⟩) g.terms.length g.terms.length)).alloc (.cells (Array.replicate g.terms.length (Value.bool false)) 4)) S g.terms.length n (Bs ++ [wr.heap.size]) (Fi.own1 g.terms.length k ++ [List.replicate g.terms.length false])) := by
        have := N1.out
        rw [World.setCell_alloc_past _ _ _ _ hSl] at this
        exact this
      clear hgb N1
      go_upto_region 8 with fail
      clear g0 g1 g2 hgl c0 f0 hSl hkh hb4 hR
      generalize ((wr.setCell ⟨S, k, none⟩ (.slice (some ⟨wr.heap.size, 0, none⟩) g.terms.length g.terms.length)).alloc (.cells (Array.replicate g.terms.length (Value.bool false)) 4)) = W4 at *
      generalize wr.heap.size = B at *
      have hgb : Hid _ := (N0.out.but.block w.heap.size (Array.getElem?_eq_some_iff.1 gb3.out).1 (by have := HS1.out; simp; omega)).trans gb3.out
      obtain ⟨g0, g1, g2, _⟩ := cells_three_z hgb.out
      have hgl := (Array.getElem?_eq_some_iff.1 hgb.out).1
      have hB2 : (Bs ++ [B]).length = k + 1 := by simp [hBs]
      by_cases hkT : k < g.terms.length
      · have hkTi : (k : Int) < (g.terms.length : Int) := by omega
        have hSl := (Array.getElem?_eq_some_iff.1 N0.out.sb).1
        have hkB : k < (Bs ++ [B]).length := by omega
        have hBk : (Bs ++ [B])[k] = B := by simp [← hBs]
        have c0 : W4.cell? ⟨S, k, none⟩ = some (.slice (some ⟨B, 0, none⟩) g.terms.length g.terms.length) := by
          simp [World.cell?, N0.out.sb, hdrs8, hBs]
        have hr := (N0.out.row k hkB).2
        rw [hBk, show (Fi.own1 g.terms.length k ++ [List.replicate g.terms.length false]).getD k [] = List.replicate g.terms.length false from by simp [List.getD_eq_getElem?_getD, Fi.own1_len]] at hr
        have c1 : W4.cell? ⟨B, k, none⟩ = some (.bool false) := by simp [World.cell?, hr, hkT]
        have f1 : W4.frozen? ⟨B, k, none⟩ = false := by simp [World.frozen?, hr]
        have hBl := (Array.getElem?_eq_some_iff.1 hr).1
        have N2 : Hid (TRows W3 (W4.setCell ⟨B, k, none⟩ (.bool true)) S g.terms.length n (Bs ++ [B]) (Fi.own1 g.terms.length (k + 1))) := by
          have := N0.out.set hS3 k hkB k
          rw [hBk] at this
          have e : (Fi.own1 g.terms.length k ++ [List.replicate g.terms.length false]).set k (Nl.tell ((Fi.own1 g.terms.length k ++ [List.replicate g.terms.length false]).getD k []) (k : Int)) = Fi.own1 g.terms.length (k + 1) := by
            rw [Fi.own1_succ, if_pos hkT, List.set_append_right _ _ (by rw [Fi.own1_len]; exact Nat.le_refl _), Fi.own1_len, Nat.sub_self]
            simp [List.getD_eq_getElem?_getD, Fi.own1_len]
          rw [e] at this
          exact this
        clear N0 hr hgb hBk
        go_wp2_with fail
        go_roundw
        case rel => exact ⟨k + 1, _, by omega, by go_num, hB2, N2⟩
        case measure => simp [intOf]; omega
      · have hkTi : ¬ (k : Int) < (g.terms.length : Int) := by omega
        have N2 : Hid (TRows W3 W4 S g.terms.length n (Bs ++ [B]) (Fi.own1 g.terms.length (k + 1))) := by
          show TRows _ _ _ _ _ _ _
          rw [Fi.own1_succ, if_neg hkT]; exact N0.out
        clear N0 hgb
        go_wp2_with fail
        go_roundw
        case rel => exact ⟨k + 1, _, by omega, by go_num, hB2, N2⟩
        case measure => simp [intOf]; omega
    · obtain rfl : n = k := by omega
      have hki : ¬ (n : Int) < (n : Int) := by omega
      have R4 : Hid (RowsAt S g.terms.length Bs (Fi.own1 g.terms.length n) wr) := hR.out.done hBs (Fi.own1_shape _ _).each
      have BSG : Hid (∀ b ∈ Bs, W3.heap.size ≤ b) := fun b hb => (hR.out.lt b hb).1
      have HB4 : Hid (Below w.heap.size w wr) := HB3.out.trans (hR.out.but.below (fun q hq => by rw [List.mem_singleton] at hq; have := HS1.out; omega) HB3.out.size)
      have nul4 : Hid (BoolsAt S wr no (Nl.of g)) := BoolsAt.keep nul3.out hR.out.but.size fun q o y hq hc => hR.out.but.block q (World.block_lt_of_cell? _ _ hc) (by rw [List.mem_singleton]; omega)
      have hz3 : Hid (W3.heap.size ≤ wr.heap.size) := hR.out.but.size
      clear hR g0 g1 g2 hgl nul3 HB3
      rename World => W5
      go_wp2_with fail
      have HBB : Hid (∀ W : World, ButL Bs W5 W → Below w.heap.size w W ∧ BoolsAt S W no (Nl.of g) ∧ W.heap[w.heap.size]? = some (.cells #[.slice ta g.terms.length tc, .slice na g.names.length nc, .slice ra g.rules.length rac] 25 (0, 0))) := fun W hW => by
        have h1 := HS1.out
        have h2 := HB4.out.size
        refine ⟨HB4.out.trans (hW.below (fun q hq => by have := BSG.out q hq; omega) h2), BoolsAt.keep nul4.out hW.size fun q o y hq hc => hW.block q (World.block_lt_of_cell? _ _ hc) fun e => by have := BSG.out q e; omega, (hW.block _ (Array.getElem?_eq_some_iff.1 hgb.out).1 fun e => by have := BSG.out _ e; omega).trans hgb.out⟩
      have hTn : g.terms.length ≤ n := by omega
      have S0 : Hid (Fi.Shape n g.terms.length (Fi.own1 g.terms.length n)) := Fi.own1_shape _ _
      have S1 : Hid (Fi.Sound g.rules (Nl.of g) g.terms.length (Fi.own1 g.terms.length n)) := Fi.own1_sound
      have S2 : Hid (Fi.Own g.terms.length (Fi.own1 g.terms.length n)) := Fi.own1_own hTn
      clear hgb nul4 gb3 hz3 s2 hmb hmT
      go_loopw [7] (fun c wr => ∃ (ch : Bool) (ss : List (List Bool)), c = .bool ch ∧ Hid (ButL Bs W5 wr) ∧ Hid (RowsAt S g.terms.length Bs ss wr) ∧ Hid (Fi.Shape n g.terms.length ss) ∧ Hid (Fi.Sound g.rules (Nl.of g) g.terms.length ss) ∧ Hid (Fi.Own g.terms.length ss) ∧ Hid (ch = false → ss = Fi.rows g.rules (Nl.of g) g.terms.length n)) (fun c wr => tmeas n g.terms.length S c wr)
      case atStart => exact ⟨true, _, rfl, ButL.refl _ _, R4, S0, S1, S2, fun h => by cases h⟩
      case round =>
        obtain ⟨ch, ss, rfl, hbt, hR, hS0, hS1, hS2, hD⟩ := hrel
        clear R4 S0 S1 S2
        cases ch
        · have hd := hD.out rfl
          have RR : Hid (RowsAt S g.terms.length Bs (Fi.rows g.rules (Nl.of g) g.terms.length n) wr) := by have := hR.out; rw [hd] at this; exact this
          have HBz := (HBB.out wr hbt.out).1
          clear hR hbt
          go_wp2_with fail
          go_ret
          exact ⟨S, rfl, ⟨Bs, RR⟩, HBz⟩
        · obtain ⟨MO, hMO⟩ : ∃ MO, tmeas n g.terms.length S (.bool true) wr = MO := ⟨_, rfl⟩
          have HM0 : Hid (2 * (n * g.terms.length - Fi.cnt2 ss) + 1 = MO) := by
            show _ = _
            rw [← hMO]; unfold tmeas; rw [hR.out.read]
          have HMO : Hid (tmeas n g.terms.length S (.bool true) wr = MO) := hMO
          have P0 : Hid (Fi.Rnd g.terms.length n g.rules (Nl.of g) ss ss false 0 0 0) := Fi.Rnd.begin hS0.out hS1.out hS2.out
          clear hMO hS0 hS1 hS2 hD
          go_wp2_with fail
          go_loopw [7, 8] (fun c i wr => ∃ (ch : Bool) (k : Nat) (s1 : List (List Bool)), k ≤ g.rules.length ∧ c = .bool ch ∧ i = .int .i64 k ∧ Hid (ButL Bs W5 wr) ∧ Hid (RowsAt S g.terms.length Bs s1 wr) ∧ Hid (Fi.Rnd g.terms.length n g.rules (Nl.of g) ss s1 ch k 0 0)) (fun _ i _ => g.rules.length - (intOf i).toNat)
          case atStart => exact ⟨false, 0, ss, Nat.zero_le _, rfl, rfl, hbt, hR, P0⟩
          case round =>
            obtain ⟨ch, k, s1, hk, rfl, rfl, hbt, hR, hP⟩ := hrel
            clear P0
            obtain ⟨HBw, hnu, hgb⟩ := HBB.out wr hbt.out
            have HBW : Hid (Below w.heap.size w wr) := HBw
            obtain ⟨g0, g1, g2, _⟩ := cells_three_z hgb
            have hgl := (Array.getElem?_eq_some_iff.1 hgb).1
            clear hnu hgb HBw
            by_cases hkl : k < g.rules.length
            · have hki : (k : Int) < (g.rules.length : Int) := by omega
              obtain ⟨rb, ro, xo, xc, rfl, _, _, k0, k1, ki, _⟩ := HG.out.rules k hkl
              replace k0 := cell_later HBW.out k0
              replace k1 := cell_later HBW.out k1
              have hmm : g.rules[k] ∈ g.rules := List.getElem_mem hkl
              have h8 := H8.out _ hmm
              have hin := HF.out.right _ hmm
              have hlf := HF.out.left _ hmm
              have HT : Hid (∀ (s1 : List (List Bool)) (ch : Bool) (j t : Nat) (hj : j < g.rules[k].2.length), Fi.Rnd g.terms.length n g.rules (Nl.of g) ss s1 ch k j t → g.rules[k].2[j] ∈ Fi.heads (Nl.of g) g.rules[k].2 → Fi.has s1 g.rules[k].2[j] t = true → Fi.has s1 g.rules[k].1 t = false → Fi.Rnd g.terms.length n g.rules (Nl.of g) ss (Fi.put s1 g.rules[k].1 t) true k j (t + 1)) := fun s1 ch j t hj h a b c => h.tell HF.out hkl hj a b c
              have HE : Hid (∀ (s1 : List (List Bool)) (ch : Bool) (j t : Nat) (hj : j < g.rules[k].2.length), Fi.Rnd g.terms.length n g.rules (Nl.of g) ss s1 ch k j t → (Fi.has s1 g.rules[k].2[j] t = true → Fi.has s1 g.rules[k].1 t = true) → Fi.Rnd g.terms.length n g.rules (Nl.of g) ss s1 ch k j (t + 1)) := fun s1 ch j t hj h a => h.same hkl hj a
              have HNX : Hid (∀ (s1 : List (List Bool)) (ch : Bool) (j : Nat) (hj : j < g.rules[k].2.length), Fi.Rnd g.terms.length n g.rules (Nl.of g) ss s1 ch k j g.terms.length → Fi.Rnd g.terms.length n g.rules (Nl.of g) ss s1 ch k (j + 1) 0) := fun s1 ch j hj h => h.next hkl hj
              have HRU : Hid (∀ (s1 : List (List Bool)) (ch : Bool) (j : Nat), Fi.Rnd g.terms.length n g.rules (Nl.of g) ss s1 ch k j 0 → (∀ x ∈ Fi.heads (Nl.of g) g.rules[k].2, x ∈ g.rules[k].2.take j) → Fi.Rnd g.terms.length n g.rules (Nl.of g) ss s1 ch (k + 1) 0 0) := fun s1 ch j h a => h.rule hkl a
              have KI : Hid (IntsAt w.heap.size w xo g.rules[k].2) := ki
              clear ki hmm
              generalize g.rules[k] = y at *
              obtain ⟨lz, rs⟩ := y
              simp only at k0 k1 h8 hin hlf HT HE HNX HRU KI
              obtain ⟨l, rfl⟩ : ∃ l : Nat, lz = l := ⟨lz.toNat, by omega⟩
              have hln2 : l < n := by omega
              have hlI : (l : Int) < (n : Int) := by omega
              have hbn : Hid (Below wr.heap.size wr (wr.alloc (Obj.cells #[.int .i64 (l : Int), .slice xo rs.length xc] 43))) := (Below.refl _ wr).alloc (Nat.le_refl _) _
              have kn : Hid ((wr.alloc (Obj.cells #[.int .i64 (l : Int), .slice xo rs.length xc] 43)).heap[wr.heap.size]? = some (.cells #[.int .i64 (l : Int), .slice xo rs.length xc] 43 (0, 0))) := heap_alloc_new wr _
              have bt4 : Hid (ButL Bs W5 (wr.alloc (Obj.cells #[.int .i64 (l : Int), .slice xo rs.length xc] 43))) := hbt.out.trans (ButL.of hbn.out)
              have R4 : Hid _ := hR.out.later hbn.out
              have P4 : Hid (Fi.hn (Nl.of g) rs = 0 + Fi.hn (Nl.of g) (rs.drop 0)) := by show _ = _; rw [List.drop_zero]; omega
              clear hbt hR hbn HBW
              go_wp2_with fail
              generalize (wr.alloc (Obj.cells #[.int .i64 (l : Int), .slice xo rs.length xc] 43)) = W6 at *
              generalize wr.heap.size = R at *
              clear k0 k1 g0 g1 g2 hgl
              go_loopw [7, 10] (fun c i wr => ∃ (ch : Bool) (j : Nat) (s1 : List (List Bool)), j ≤ rs.length ∧ c = .bool ch ∧ i = .int .i64 j ∧ Hid (ButL Bs W5 wr) ∧ Hid (RowsAt S g.terms.length Bs s1 wr) ∧ Hid (wr.heap[R]? = some (.cells #[.int .i64 (l : Int), .slice xo rs.length xc] 43 (0, 0))) ∧ Hid (Fi.Rnd g.terms.length n g.rules (Nl.of g) ss s1 ch k j 0) ∧ Hid (Fi.hn (Nl.of g) rs = j + Fi.hn (Nl.of g) (rs.drop j))) (fun _ i _ => rs.length - (intOf i).toNat)
              case atStart => exact ⟨ch, 0, s1, Nat.zero_le _, rfl, rfl, bt4, R4, kn, hP, P4⟩
              case round =>
                obtain ⟨ch, j, s1, hj, rfl, rfl, hbt, hR, hrb, hP, hH⟩ := hrel
                clear bt4 R4 kn P4
                obtain ⟨r0, r1, _⟩ := cells_two_z hrb.out
                have hrl := (Array.getElem?_eq_some_iff.1 hrb.out).1
                by_cases hjl : j < rs.length
                · have hji : (j : Int) < (rs.length : Int) := by omega
                  have hHj := hH.out
                  rw [Fi.hn_drop hjl] at hHj
                  have hjh : rs[j] ∈ Fi.heads (Nl.of g) rs := by
                    rw [Fi.heads_take]
                    exact List.mem_take_iff_getElem.2 ⟨j, by omega, rfl⟩
                  have HTj : Hid (∀ (s1 : List (List Bool)) (ch : Bool) (t : Nat), Fi.Rnd g.terms.length n g.rules (Nl.of g) ss s1 ch k j t → Fi.has s1 rs[j] t = true → Fi.has s1 l t = false → Fi.Rnd g.terms.length n g.rules (Nl.of g) ss (Fi.put s1 l t) true k j (t + 1)) := fun s1 ch t h => HT.out s1 ch j t hjl h hjh
                  have HEj : Hid (∀ (s1 : List (List Bool)) (ch : Bool) (t : Nat), Fi.Rnd g.terms.length n g.rules (Nl.of g) ss s1 ch k j t → (Fi.has s1 rs[j] t = true → Fi.has s1 l t = true) → Fi.Rnd g.terms.length n g.rules (Nl.of g) ss s1 ch k j (t + 1)) := fun s1 ch t h => HE.out s1 ch j t hjl h
                  have HNj : Hid (∀ (s1 : List (List Bool)) (ch : Bool), Fi.Rnd g.terms.length n g.rules (Nl.of g) ss s1 ch k j g.terms.length → Fi.Rnd g.terms.length n g.rules (Nl.of g) ss s1 ch k (j + 1) 0) := fun s1 ch h => HNX.out s1 ch j hjl h
                  have HHj : Hid (Fi.hn (Nl.of g) rs = j + ((if Nl.isAt (Nl.of g) rs[j] = true then Fi.hn (Nl.of g) (rs.drop (j + 1)) else 0) + 1)) := hHj
                  have hx := hin _ (List.getElem_mem hjl)
                  have hbl := (HBB.out wr hbt.out).1
                  obtain ⟨xb, xof, rfl, _, _, x0⟩ := IntsAt.get (KI.out.later hbl) j hjl
                  have X0 : Hid (∀ W : World, ButL Bs W5 W → W.cell? ⟨xb, xof + j, none⟩ = some (.int .i64 rs[j])) := fun W hW => by
                    obtain ⟨xb2, xo2, e, _, _, x⟩ := IntsAt.get (KI.out.later (HBB.out W hW).1) j hjl
                    cases e
                    exact x
                  clear hHj hH hjh hbl x0
                  generalize rs[j] = x at *
                  obtain ⟨m, rfl⟩ : ∃ m : Nat, x = m := ⟨x.toNat, by omega⟩
                  have hmn : m < n := by omega
                  have hmI : (m : Int) < (n : Int) := by omega
                  clear r0 r1 hrl
                  have hBm : m < Bs.length := by rw [hR.out.len, hP.out.shape.len]; exact hmn
                  have hBl2 : l < Bs.length := by rw [hR.out.len, hP.out.shape.len]; exact hln2
                  obtain ⟨r0, r1, _⟩ := cells_two_z hrb.out
                  have hrl := (Array.getElem?_eq_some_iff.1 hrb.out).1
                  go_wp2_with fail
                  clear r0 r1 hrl
                  go_loopw [7, 11] (fun c i wr => ∃ (ch : Bool) (t : Nat) (s1 : List (List Bool)), t ≤ g.terms.length ∧ c = .bool ch ∧ i = .int .i64 t ∧ Hid (ButL Bs W5 wr) ∧ Hid (RowsAt S g.terms.length Bs s1 wr) ∧ Hid (wr.heap[R]? = some (.cells #[.int .i64 (l : Int), .slice (some ⟨xb, xof, none⟩) rs.length xc] 43 (0, 0))) ∧ Hid (Fi.Rnd g.terms.length n g.rules (Nl.of g) ss s1 ch k j t)) (fun _ i _ => g.terms.length - (intOf i).toNat)
                  case atStart => exact ⟨ch, 0, s1, Nat.zero_le _, rfl, rfl, hbt, hR, hrb, hP⟩
                  case round =>
                    obtain ⟨ch, t, s1, ht, rfl, rfl, hbt, hR, hrb, hP⟩ := hrel
                    obtain ⟨_, hnu, hgb⟩ := HBB.out wr hbt.out
                    obtain ⟨g0, g1, g2, _⟩ := cells_three_z hgb
                    have hgl := (Array.getElem?_eq_some_iff.1 hgb).1
                    obtain ⟨r0, r1, _⟩ := cells_two_z hrb.out
                    have hrl := (Array.getElem?_eq_some_iff.1 hrb.out).1
                    have x0 := X0.out wr hbt.out
                    clear hgb
                    by_cases htl : t < g.terms.length
                    · have hti : (t : Int) < (g.terms.length : Int) := by omega
                      have hSl := hR.out.lt.1
                      have c0 := hR.out.head m hBm
                      obtain ⟨c1, f1⟩ := hR.out.cell m t hBm htl
                      have d0 := hR.out.head l hBl2
                      obtain ⟨d1, f2⟩ := hR.out.cell l t hBl2 htl
                      have hbm := hR.out.lt.2 _ (List.getElem_mem hBm)
                      have hbl := hR.out.lt.2 _ (List.getElem_mem hBl2)
                      have RP : Hid _ := hR.out.put l t hBl2
                      have BP : Hid (ButL Bs W5 (wr.setCell ⟨Bs[l], t, none⟩ (.bool true))) := hbt.out.setCell (List.getElem_mem hBl2) _ _
                      have hRn : R ∉ Bs := fun e => by
                        obtain ⟨i, hi, e2⟩ := List.getElem_of_mem e
                        have h1 := hR.out.row i hi
                        rw [e2, hrb.out] at h1
                        exact absurd (Obj.cells.inj (Option.some.inj h1)).2.1 (by decide)
                      have RBP : Hid ((wr.setCell ⟨Bs[l], t, none⟩ (.bool true)).heap[R]? = some (.cells #[.int .i64 (l : Int), .slice (some ⟨xb, xof, none⟩) rs.length xc] 43 (0, 0))) := (Below.heap_setCell _ _ _ _ (fun e => hRn (by show R ∈ Bs; rw [show R = Bs[l] from e]; exact List.getElem_mem hBl2))).trans hrb.out
                      have HE1 : Hid ((Fi.has s1 (m : Int) (t : Int) = true → Fi.has s1 (l : Int) (t : Int) = true) → Fi.Rnd g.terms.length n g.rules (Nl.of g) ss s1 ch k j (t + 1)) := HEj.out s1 ch t hP.out
                      have HT1 : Hid (Fi.has s1 (m : Int) (t : Int) = true → Fi.has s1 (l : Int) (t : Int) = false → Fi.Rnd g.terms.length n g.rules (Nl.of g) ss (Fi.put s1 l t) true k j (t + 1)) := HTj.out s1 ch t hP.out
                      clear hRn hnu
                      generalize Bs[m] = Bm at *
                      generalize Bs[l] = Bl at *
                      cases h1 : Fi.has s1 (m : Int) (t : Int)
                      · rw [h1] at c1
                        have N1 : Hid _ := HE1.out (fun e => by rw [h1] at e; cases e)
                        clear HE1 HT1 hP h1 RP BP RBP
                        go_wp2_with fail
                        go_roundw
                        case rel => exact ⟨ch, t + 1, s1, by omega, rfl, by go_num, hbt, hR, hrb, N1⟩
                        case measure => simp [intOf]; omega
                      · cases h2 : Fi.has s1 (l : Int) (t : Int)
                        · rw [h1] at c1
                          rw [h2] at d1
                          have N1 : Hid _ := HT1.out h1 h2
                          clear HE1 HT1 hP h1 h2 hR hbt hrb
                          go_wp2_with fail
                          go_roundw
                          case rel => exact ⟨true, t + 1, _, by omega, rfl, by go_num, BP, RP, RBP, N1⟩
                          case measure => simp [intOf]; omega
                        · rw [h1] at c1
                          rw [h2] at d1
                          have N1 : Hid _ := HE1.out (fun _ => h2)
                          clear HE1 HT1 hP h1 h2 RP BP RBP
                          go_wp2_with fail
                          go_roundw
                          case rel => exact ⟨ch, t + 1, s1, by omega, rfl, by go_num, hbt, hR, hrb, N1⟩
                          case measure => simp [intOf]; omega
                    · obtain rfl : t = g.terms.length := by omega
                      have hti : ¬ (g.terms.length : Int) < (g.terms.length : Int) := by omega
                      have N1 : Hid _ := HNj.out s1 ch hP.out
                      obtain ⟨nb, nof, rfl, _, _, n0⟩ := BoolsAt.get hnu m (by rw [hln]; exact hmn)
                      have e : Nl.isAt (Nl.of g) (m : Int) = (Nl.of g)[m]'(by rw [hln]; exact hmn) := by rw [Nl.isAt_get (by omega) (by simp [hln]; exact hmn)]; simp
                      have HHj2 := HHj.out
                      rw [e] at HHj2
                      clear e hP hnu
                      generalize (Nl.of g)[m]'(by rw [hln]; exact hmn) = y at *
                      cases y
                      · have hT2 : Fi.hn (Nl.of g) rs = j + 1 := by rw [HHj2]; simp
                        have N2 : Hid _ := HRU.out s1 ch (j + 1) N1.out fun x hx => by rw [Fi.heads_take, hT2] at hx; exact hx
                        clear HHj2 hT2 N1
                        go_wp2_with fail
                        go_roundw
                        case rel => exact ⟨ch, k + 1, s1, by omega, rfl, by go_num, hbt, hR, N2⟩
                        case measure => simp [intOf]; omega
                      · have N2 : Hid (Fi.hn (Nl.of g) rs = (j + 1 : Nat) + Fi.hn (Nl.of g) (rs.drop (j + 1))) := by show _ = _; rw [HHj2]; simp; omega
                        clear HHj2
                        go_wp2_with fail
                        go_roundw
                        case rel => exact ⟨ch, j + 1, s1, by omega, rfl, by go_num, hbt, hR, hrb, N1, N2⟩
                        case measure => simp [intOf]; omega
                · obtain rfl : j = rs.length := by omega
                  have hji : ¬ (rs.length : Int) < (rs.length : Int) := by omega
                  have N1 : Hid _ := HRU.out s1 ch rs.length hP.out fun x hx => by rw [List.take_length]; exact Fi.heads_mem hx
                  clear hP hH
                  go_wp2_with fail
                  go_roundw
                  case rel => exact ⟨ch, k + 1, s1, by omega, rfl, by go_num, hbt, hR, N1⟩
                  case measure => simp [intOf]; omega
            · obtain rfl : k = g.rules.length := by omega
              have hki : ¬ (g.rules.length : Int) < (g.rules.length : Int) := by omega
              have hz := hP.out.shape
              have hle := Fi.cnt2_le hz
              have HM : Hid (tmeas n g.terms.length S (.bool ch) wr < MO) := by
                show _ < _
                rw [← HM0.out]
                unfold tmeas
                rw [hR.out.read]
                cases ch
                · rw [(hP.out.no rfl).1]; simp
                · have := hP.out.yes rfl
                  simp only
                  omega
              have D0 : Hid (ch = false → s1 = Fi.rows g.rules (Nl.of g) g.terms.length n) := fun e => by subst e; exact hP.out.done
              have S0 : Hid _ := hP.out.shape
              have S1 : Hid _ := hP.out.sound
              have S2 : Hid _ := hP.out.own
              clear hP hz hle
              go_wp2_with fail
              go_roundw
              case rel => exact ⟨ch, s1, rfl, hbt, hR, S0, S1, S2, D0⟩
              case measure => exact Nat.lt_of_lt_of_eq HM.out HMO.out.symm
end Go.Proofs.YtdocbgfpnaiijaaGreat

namespace Go.Proofs.YtdocbgfpnaiijaaGreat.Fi
open Go.Proofs.YtdocbgfpnaiijaaGreat.Gr Go.Proofs.YtdocbgfpnaiijaaGreat.Nl

theorem ofL_get {nl : List Bool} {ss : List (List Bool)} {T : Nat} {l : List Int} (k : Nat) (h : k < T) : (ofL nl ss T l)[k]'(by rw [ofL_len]; exact h) = (heads nl l).any fun x => has ss x (k : Int) := by simp [ofL]
theorem heads_snoc {nl : List Bool} {l : List Int} {i : Nat} (h : i < l.length) : heads nl (l.take (i + 1)) = heads nl (l.take i) ++ (if allIn nl (l.take i) = true then [l[i]] else []) := by
  rw [List.take_add_one, List.getElem?_eq_getElem h, heads_append]
  congr 1
  split
  · simp [heads]
  · rfl
theorem ofL_snoc {nl : List Bool} {ss : List (List Bool)} {T : Nat} {l : List Int} {i k : Nat} (h : i < l.length) (hk : k < T) : (ofL nl ss T (l.take (i + 1)))[k]'(by rw [ofL_len]; exact hk) = ((ofL nl ss T (l.take i))[k]'(by rw [ofL_len]; exact hk) || (allIn nl (l.take i) && has ss l[i] (k : Int))) := by
  rw [ofL_get k hk, ofL_get k hk, heads_snoc h, List.any_append]
  congr 1
  cases allIn nl (l.take i) <;> simp
theorem ofL_shut {nl : List Bool} {ss : List (List Bool)} {T : Nat} {l : List Int} {i : Nat} (h : i < l.length) (hs : allIn nl (l.take i) = false) : ofL nl ss T (l.take (i + 1)) = ofL nl ss T (l.take i) := by
  refine List.ext_getElem (by rw [ofL_len, ofL_len]) fun k h1 h2 => ?_
  have hk : k < T := by rw [ofL_len] at h1; exact h1
  rw [ofL_snoc h hk, hs]; simp
theorem ofL_nil (nl : List Bool) (ss : List (List Bool)) (T : Nat) : ofL nl ss T [] = List.replicate T false := by
  refine List.ext_getElem (by rw [ofL_len]; simp) fun k h1 h2 => ?_
  rw [ofL_get k (by rw [ofL_len] at h1; exact h1)]
  simp [heads]
theorem allIn_snoc {nl : List Bool} {l : List Int} {i : Nat} (h : i < l.length) : allIn nl (l.take (i + 1)) = (allIn nl (l.take i) && isAt nl l[i]) := by
  unfold allIn
  rw [List.take_add_one, List.getElem?_eq_getElem h, List.all_append]
  simp
theorem mix_set {a b : List Bool} (hl : a.length = b.length) (k : Nat) (hk : k < b.length) : (b.take k ++ a.drop k).set k b[k] = b.take (k + 1) ++ a.drop (k + 1) := by
  have hka : k < a.length := by omega
  have ht : (b.take k).length = k := by rw [List.length_take]; omega
  rw [List.drop_eq_getElem_cons hka, List.set_append_right _ _ (by omega), ht, Nat.sub_self, List.set_cons_zero, List.take_add_one, List.getElem?_eq_getElem hk, List.append_assoc]
  rfl
theorem mix_get {a b : List Bool} (hl : a.length = b.length) (k : Nat) (hk : k < b.length) : ∃ h : k < (b.take k ++ a.drop k).length, (b.take k ++ a.drop k)[k] = a[k]'(by omega) := by
  have h : k < (b.take k ++ a.drop k).length := by rw [List.length_append, List.length_take, List.length_drop]; omega
  refine ⟨h, ?_⟩
  rw [List.getElem_append_right (by simp; omega)]
  simp [Nat.min_eq_left (Nat.le_of_lt hk)]
end Go.Proofs.YtdocbgfpnaiijaaGreat.Fi

namespace Go.Proofs.YtdocbgfpnaiijaaGreat
open Go.RowKit Go.Conc

set_option maxRecDepth 100000 in
set_option maxHeartbeats 6400000 in
theorem refOf8_is (g : Gr.Gm) (A : GA) (l : List Int) (ao : Option Addr) (c : Nat) (w : World) (hm : ∀ x ∈ g.rules, x.2.length ≤ maxLen) (h : GmAt w.heap.size w g A) (hl : IntsAt w.heap.size w ao l) (h4 : l.length ≤ 4000) :
    Calls Tryz.prog 30 #[.agg (gmCells g A), .slice ao l.length c] w fun e w' => ∃ xo xc, e = .returned (.agg #[.slice xo (Fi.ofG g l).length xc, .bool (Fi.okG g l)]) ∧ Hid (IntsAt w'.heap.size w' xo (Fi.ofG g l)) ∧ Hid (Below w.heap.size w w') := by
  obtain ⟨ta, tc, na, nc, ra, rac⟩ := A
  have HG : Hid (GmAt w.heap.size w g ⟨ta, tc, na, nc, ra, rac⟩) := h
  have HL : Hid (IntsAt w.heap.size w ao l) := hl
  have HGD : Hid (∀ (r : Bool) (W : World), Below w.heap.size w W → Gr.good g = r → Calls Tryz.prog 6 #[.agg (gmCells g ⟨ta, tc, na, nc, ra, rac⟩)] W fun e w' => e = .returned (.bool r) ∧ Below W.heap.size W w') := fun r W hW hr => refGood_any r g _ W hm (h.next hW) (by rw [Gr.refGood_is]; exact hr)
  have hB : Hid (Below w.heap.size w ((w.alloc (Obj.cells #[.slice ta g.terms.length tc, .slice na g.names.length nc, .slice ra g.rules.length rac] 25)).alloc (Obj.cells #[.slice none 0 0, .bool false] 61))) := ((Below.refl _ w).alloc (Nat.le_refl _) _).alloc (by simp) _
  have b0 : Hid (((w.alloc (Obj.cells #[.slice ta g.terms.length tc, .slice na g.names.length nc, .slice ra g.rules.length rac] 25)).alloc (Obj.cells #[.slice none 0 0, .bool false] 61)).heap[w.heap.size]? = some (.cells #[.slice ta g.terms.length tc, .slice na g.names.length nc, .slice ra g.rules.length rac] 25 (0, 0))) := by
    show _ = _; rw [Below.heap_alloc _ _ _ (by simp)]; exact heap_alloc_new w _
  have b1 : Hid (((w.alloc (Obj.cells #[.slice ta g.terms.length tc, .slice na g.names.length nc, .slice ra g.rules.length rac] 25)).alloc (Obj.cells #[.slice none 0 0, .bool false] 61)).heap[w.heap.size + 1]? = some (.cells #[.slice none 0 0, .bool false] 61 (0, 0))) := by
    show _ = _
    have := heap_alloc_new (w.alloc (Obj.cells #[.slice ta g.terms.length tc, .slice na g.names.length nc, .slice ra g.rules.length rac] 25)) (Obj.cells #[.slice none 0 0, .bool false] 61)
    simpa using this
  clear h hl
  have fin0 : ∀ W : World, Below w.heap.size w W → Below w.heap.size w ((W.setCell ⟨w.heap.size + 1, 0, none⟩ (.slice none 0 0)).setCell ⟨w.heap.size + 1, 1, none⟩ (.bool false)) := fun W hW => (hW.setCell (by show w.heap.size ≤ w.heap.size + 1; omega) _).setCell (by show w.heap.size ≤ w.heap.size + 1; omega) _
  have FIN0 : Hid _ := fin0
  clear fin0
  cases hg : Gr.good g
  · have R : Hid (Fi.ofG g l = []) := by show _ = _; simp [Fi.ofG, Fi.okG, hg]
    have RK : Hid (Fi.okG g l = false) := by show _ = _; simp [Fi.okG, hg]
    have HC1 : Hid (∀ _ : Unit, _) := fun _ => HGD.out false _ hB.out hg
    clear HGD hm
    simp only [gmCells] at HC1 ⊢
    go_enter Tryz.func30, Tryz.ntmps30
    go_wp2_with (go_at_call 6; fail)
    generalize ((w.alloc (Obj.cells #[.slice ta g.terms.length tc, .slice na g.names.length nc, .slice ra g.rules.length rac] 25)).alloc (Obj.cells #[.slice none 0 0, .bool false] 61)) = W at *
    refine (HC1.out ()).mono ?_
    rintro e w1 ⟨rfl, hb1⟩
    have HB1 : Hid (Below w.heap.size w w1) := hB.out.trans (hb1.mono hB.out.size)
    have B1 : Hid _ := (hb1.block _ (Array.getElem?_eq_some_iff.1 b1.out).1).trans b1.out
    obtain ⟨d0, d1, z0, z1⟩ := cells_two_z B1.out
    have hbl := (Array.getElem?_eq_some_iff.1 B1.out).1
    have k5 := rset2 (z := .slice none 0 0) (u := .bool false) B1.out
    have HB5 := FIN0.out w1 HB1.out
    clear hb1 HC1
    go_wp2_with fail
    generalize ((w1.setCell ⟨w.heap.size + 1, 0, none⟩ (.slice none 0 0)).setCell ⟨w.heap.size + 1, 1, none⟩ (.bool false)) = W5 at *
    obtain ⟨e0, e1, _⟩ := cells_two_z k5
    refine bodyPost_ret (v := .agg #[.slice none 0 0, .bool false]) (by simp [results, Tryz.results30, go_sem, e0, e1]) rfl ⟨none, 0, by rw [R.out, RK.out]; rfl, ?_, HB5⟩
    rw [R.out]; exact CellsAt.nil
  · have hsz := (Nl.sizes_of hg).1
    have hnl : (Nl.of g).length = g.terms.length + g.names.length := Nl.of_len hg
    have HC1 : Hid (∀ _ : Unit, _) := fun _ => HGD.out true _ hB.out hg
    have HTB : Hid (∀ W : World, Below w.heap.size w W → _) := fun W hW => reftable_any g ⟨ta, tc, na, nc, ra, rac⟩ _ W rfl hg hm (HG.out.next hW)
    have HNU : Hid (∀ W : World, Below w.heap.size w W → Calls Tryz.prog 54 #[.agg (gmCells g ⟨ta, tc, na, nc, ra, rac⟩)] W fun e w' => ∃ ao c, e = .returned (.slice ao (Nl.of g).length c) ∧ Hid (BoolsAt w'.heap.size w' ao (Nl.of g)) ∧ Hid (Below W.heap.size W w')) := fun W hW => refOf6_is g _ W hm (HG.out.next hW)
    have RO : Hid (Fi.okG g l = Fi.syms (g.terms.length + g.names.length) l) := by show _ = _; simp [Fi.okG, hg]
    have hts : Fi.tab g = Fi.rows g.rules (Nl.of g) g.terms.length (g.terms.length + g.names.length) := rfl
    rw [hnl] at HNU
    rw [← hts] at HTB
    have RL : Hid (Fi.syms (g.terms.length + g.names.length) l = true → Fi.ofG g l = Fi.rise (Fi.ofL (Nl.of g) (Fi.tab g) g.terms.length l)) := fun e => by simp [Fi.ofG, Fi.okG, hg, e]
    have RN : Hid (Fi.syms (g.terms.length + g.names.length) l = false → Fi.ofG g l = []) := fun e => by simp [Fi.ofG, Fi.okG, e]
    have hmT := make_boolsN g.terms.length (by omega)
    have SHP : Hid _ := Fi.tab_shape g
    clear HGD hm hts
    simp only [gmCells] at HC1 HTB HNU ⊢
    generalize hnn : g.terms.length + g.names.length = n at *
    generalize Fi.tab g = ts at *
    go_enter Tryz.func30, Tryz.ntmps30
    go_wp2_with (go_at_call 6; fail)
    generalize ((w.alloc (Obj.cells #[.slice ta g.terms.length tc, .slice na g.names.length nc, .slice ra g.rules.length rac] 25)).alloc (Obj.cells #[.slice none 0 0, .bool false] 61)) = W at *
    refine (HC1.out ()).mono ?_
    rintro e w1 ⟨rfl, hb1⟩
    have HB1 : Hid (Below w.heap.size w w1) := hB.out.trans (hb1.mono hB.out.size)
    have B0 : Hid _ := (hb1.block _ (Array.getElem?_eq_some_iff.1 b0.out).1).trans b0.out
    have B1 : Hid _ := (hb1.block _ (Array.getElem?_eq_some_iff.1 b1.out).1).trans b1.out
    clear hb1 HC1 b0 b1 hB
    have HC : Hid (∀ w2 : World, Lat w1.drew w2 → Below w.heap.size w w2 ∧ w2.cell? ⟨w.heap.size, 0, none⟩ = some (.slice ta g.terms.length tc) ∧ w2.cell? ⟨w.heap.size, 1, none⟩ = some (.slice na g.names.length nc) ∧ w2.cell? ⟨w.heap.size, 2, none⟩ = some (.slice ra g.rules.length rac)) := fun w2 hL => by
      have h := cells_three_z ((hL.of_drew.block _ (Array.getElem?_eq_some_iff.1 B0.out).1).trans B0.out)
      exact ⟨HB1.out.trans (Below.mono hL.of_drew HB1.out.size), h.1, h.2.1, h.2.2.1⟩
    go_upto_region 3 with fail
    refine wp_region_lat [.val (.agg #[.slice ta g.terms.length tc, .slice na g.names.length nc, .slice ra g.rules.length rac]),
      .fact (fun v w' => ∃ S, v = .slice (some ⟨S, 0, none⟩) n n ∧ ∃ Bs, RowsAt S g.terms.length Bs ts w'),
      .val (.agg #[.slice ta g.terms.length tc, .slice na g.names.length nc, .slice ra g.rules.length rac]),
      .fact (fun v w' => ∃ no nnc, v = .slice no n nnc ∧ BoolsAt w'.heap.size w' no (Nl.of g))] [_, _] (by kernel_rfl) (by kernel_rfl) rfl ?kept ?walk
    case kept => exact ⟨fun v w1 w2 hL ⟨S, e, Bs, h1⟩ => ⟨S, e, Bs, h1.later hL⟩, fun v w1 w2 hL ⟨no, c, e, h1⟩ => ⟨no, c, e, h1.next hL⟩, trivial⟩
    case walk =>
      refine wpFacts_val (by rfl) (fun w1 hL hd K hK => ?_) ?_
      · obtain ⟨_, c0, c1, c2⟩ := HC.out w1 hL
        go_simp
        exact hK _ (Lat.refl _)
      refine wpFacts_norm (by simp only [Act.put, List.setIfInBounds_toArray, List.set_cons_zero, List.set_cons_succ]; rfl) (by simp only [List.nil_append]; rfl) ?_
      refine wpFacts_fact (by rfl) (fun w2 hL hd K hK => ?_) (fun v1 => ?_)
      · go_simp
        refine Calls.mono (HTB.out w2 (HC.out w2 hL).1) ?_
        rintro e w9 ⟨S, rfl, ⟨Bs, hb8⟩, hb9⟩
        exact hK _ _ hb9.out ⟨S, rfl, Bs, hb8.out⟩
      refine wpFacts_norm (by simp only [Act.put, List.setIfInBounds_toArray, List.set_cons_zero, List.set_cons_succ]; rfl) (by simp only [List.cons_append, List.nil_append]; rfl) ?_
      refine wpFacts_val (by rfl) (fun w1 hL hd K hK => ?_) ?_
      · obtain ⟨_, c0, c1, c2⟩ := HC.out w1 hL
        go_simp
        exact hK _ (Lat.refl _)
      refine wpFacts_norm (by simp only [Act.put, List.setIfInBounds_toArray, List.set_cons_zero, List.set_cons_succ]; rfl) (by simp only [List.cons_append, List.nil_append]; rfl) ?_
      refine wpFacts_fact (by rfl) (fun w2 hL hd K hK => ?_) (fun v3 => ?_)
      · go_simp
        refine Calls.mono (HNU.out w2 (HC.out w2 hL).1) ?_
        rintro e w9 ⟨bo, bc, rfl, hb8, hb9⟩
        exact hK _ _ hb9.out ⟨bo, bc, rfl, hb8.out⟩
      refine wpFacts_norm (by simp only [Act.put, List.setIfInBounds_toArray, List.set_cons_zero, List.set_cons_succ]; rfl) (by simp only [List.cons_append, List.nil_append]; rfl) ?_
      intro w3 hL ha
      obtain ⟨S, rfl, Bs, hR3⟩ : ∃ S, v1 = .slice (some ⟨S, 0, none⟩) n n ∧ ∃ Bs, RowsAt S g.terms.length Bs ts w3 := allHold_get 1 ha rfl rfl
      obtain ⟨no, nnc, rfl, hN3⟩ : ∃ no nnc, v3 = .slice no n nnc ∧ BoolsAt w3.heap.size w3 no (Nl.of g) := allHold_get 3 ha rfl rfl
      clear ha
      have HR3 : Hid (RowsAt S g.terms.length Bs ts w3) := hR3
      have HN3 : Hid (BoolsAt w3.heap.size w3 no (Nl.of g)) := hN3
      have HB3 : Hid (Below w.heap.size w w3) := (HC.out w3 hL).1
      have B03 : Hid _ := (hL.of_drew.block _ (Array.getElem?_eq_some_iff.1 B0.out).1).trans B0.out
      have B13 : Hid _ := (hL.of_drew.block _ (Array.getElem?_eq_some_iff.1 B1.out).1).trans B1.out
      obtain ⟨g0, g1, g2, _⟩ := cells_three_z B03.out
      have hz3 := (Array.getElem?_eq_some_iff.1 B03.out).1
      have hBl : Bs.length = n := by rw [hR3.len, SHP.out.len]
      clear hR3 hN3 hL HC B0 B1 HB1 HTB HNU
      go_upto_region 5 with fail
      have hb4 : Hid (Below w3.heap.size w3 (w3.alloc (.cells (Array.replicate g.terms.length (Value.bool false)) 4))) := (Below.refl _ w3).alloc (Nat.le_refl _) _
      have a4 : Hid ((w3.alloc (.cells (Array.replicate g.terms.length (Value.bool false)) 4)).heap[w3.heap.size]? = some (.cells ((Fi.ofL (Nl.of g) ts g.terms.length (l.take 0)).map Value.bool).toArray 4 (0, 0))) := by
        show _ = _
        rw [heap_alloc_new, List.take_zero, Fi.ofL_nil]; simp
      have RI : Hid (w3.heap.size ∉ Bs ∧ w.heap.size + 1 < w3.heap.size) := ⟨fun e => by have := HR3.out.lt.2 _ e; omega, (Array.getElem?_eq_some_iff.1 B13.out).1⟩
      have HWW : Hid (∀ W : World, ButL [w3.heap.size] (w3.alloc (.cells (Array.replicate g.terms.length (Value.bool false)) 4)) W → Below w3.heap.size w3 W) := fun W hW => hb4.out.trans (hW.below (fun q hq => by rw [List.mem_singleton] at hq; omega) hb4.out.size)
      generalize (w3.alloc (.cells (Array.replicate g.terms.length (Value.bool false)) 4)) = W4 at *
      clear g0 g1 g2 hb4 hmT hz3
      go_wp2_with fail
      have Y0 : Hid (Fi.syms n l = Fi.syms n (l.drop 0)) := by show _ = _; rw [List.drop_zero]
      have O0 : Hid (true = Nl.allIn (Nl.of g) (l.take 0)) := rfl
      obtain ⟨I, hIE⟩ : ∃ I, w3.heap.size = I := ⟨_, rfl⟩
      have IE : Hid (w3.heap.size = I) := hIE
      rw [hIE] at a4 RI HWW ⊢
      clear hIE
      go_loopw [8, 9] (fun o i wr => ∃ (k : Nat) (op : Bool), k ≤ l.length ∧ o = .bool op ∧ i = .int .i64 k ∧ Hid (op = Nl.allIn (Nl.of g) (l.take k)) ∧ Hid (Fi.syms n l = Fi.syms n (l.drop k)) ∧ Hid (wr.heap[I]? = some (.cells ((Fi.ofL (Nl.of g) ts g.terms.length (l.take k)).map Value.bool).toArray 4 (0, 0))) ∧ Hid (ButL [I] W4 wr)) (fun _ i _ => l.length - (intOf i).toNat)
      case atStart => exact ⟨0, true, Nat.zero_le _, rfl, rfl, O0, Y0, a4, ButL.refl _ _⟩
      case round =>
        obtain ⟨k, op, hk, rfl, rfl, hO, hY, hA, hbt⟩ := hrel
        clear a4 Y0 O0
        have h3 := HWW.out wr hbt.out
        have HBw : Hid (Below w.heap.size w wr) := HB3.out.trans (h3.mono (by have := RI.out.2; omega))
        have r13 : Hid _ := (h3.block _ RI.out.2).trans B13.out
        clear h3
        by_cases hkl : k < l.length
        · have hki : (k : Int) < (l.length : Int) := by omega
          obtain ⟨xb, xof, rfl, _, _, x0⟩ := IntsAt.get (HL.out.later HBw.out) k hkl
          have hYk := hY.out
          rw [Fi.syms_drop n l k hkl] at hYk
          have OS : Hid _ := Fi.allIn_snoc (nl := Nl.of g) hkl
          have LS : Hid (∀ (t : Nat) (_ : t < g.terms.length) (h1 : t < (Fi.ofL (Nl.of g) ts g.terms.length (l.take (k + 1))).length) (h2 : t < (Fi.ofL (Nl.of g) ts g.terms.length (l.take k)).length), (Fi.ofL (Nl.of g) ts g.terms.length (l.take (k + 1)))[t]'h1 = ((Fi.ofL (Nl.of g) ts g.terms.length (l.take k))[t]'h2 || (Nl.allIn (Nl.of g) (l.take k) && Fi.has ts l[k] (t : Int)))) := fun t ht _ _ => Fi.ofL_snoc hkl ht
          have LH : Hid (Nl.allIn (Nl.of g) (l.take k) = false → Fi.ofL (Nl.of g) ts g.terms.length (l.take (k + 1)) = Fi.ofL (Nl.of g) ts g.terms.length (l.take k)) := fun e => Fi.ofL_shut hkl e
          have X0 : Hid (∀ W : World, ButL [I] W4 W → W.cell? ⟨xb, xof + k, none⟩ = some (.int .i64 l[k])) := fun W hW => by
            have hb := HB3.out.trans ((HWW.out W hW).mono (by have := RI.out.2; omega))
            obtain ⟨xb2, xo2, e, _, _, x⟩ := IntsAt.get (HL.out.later hb) k hkl
            cases e
            exact x
          generalize l[k] = x at *
          by_cases hx0 : x < 0
          · have hd0 : decide (x < 0) = true := decide_eq_true hx0
            have SY : Fi.syms n l = false := by
              rw [hYk]
              have : decide (0 ≤ x ∧ x < (n : Int)) = false := by simp; omega
              rw [this]; rfl
            have R1 : Hid (Fi.ofG g l = []) := RN.out SY
            have R2 : Hid (Fi.okG g l = false) := by show _ = _; rw [RO.out, SY]
            obtain ⟨d0, d1, z0, z1⟩ := cells_two_z r13.out
            have hbl := (Array.getElem?_eq_some_iff.1 r13.out).1
            have k5 := rset2 (z := .slice none 0 0) (u := .bool false) r13.out
            have HB5 := FIN0.out wr HBw.out
            clear hYk SY hx0 X0 LS LH OS hA hbt
            go_wp2_with fail
            generalize ((wr.setCell ⟨w.heap.size + 1, 0, none⟩ (.slice none 0 0)).setCell ⟨w.heap.size + 1, 1, none⟩ (.bool false)) = W5 at *
            obtain ⟨e0, e1, _⟩ := cells_two_z k5
            refine bodyPost_ret (v := .agg #[.slice none 0 0, .bool false]) (by simp [results, Tryz.results30, go_sem, e0, e1]) rfl ⟨none, 0, by rw [R1.out, R2.out]; rfl, ?_, HB5⟩
            rw [R1.out]; exact CellsAt.nil
          · have hd0 : decide (x < 0) = false := decide_eq_false hx0
            by_cases hx1 : (n : Int) ≤ x
            · have hd1 : decide ((n : Int) ≤ x) = true := decide_eq_true hx1
              have SY : Fi.syms n l = false := by
                rw [hYk]
                have : decide (0 ≤ x ∧ x < (n : Int)) = false := by simp; omega
                rw [this]; rfl
              have R1 : Hid (Fi.ofG g l = []) := RN.out SY
              have R2 : Hid (Fi.okG g l = false) := by show _ = _; rw [RO.out, SY]
              obtain ⟨d0, d1, z0, z1⟩ := cells_two_z r13.out
              have hbl := (Array.getElem?_eq_some_iff.1 r13.out).1
              have k5 := rset2 (z := .slice none 0 0) (u := .bool false) r13.out
              have HB5 := FIN0.out wr HBw.out
              clear hYk SY hx0 hx1 X0 LS LH OS hA hbt
              go_wp2_with fail
              generalize ((wr.setCell ⟨w.heap.size + 1, 0, none⟩ (.slice none 0 0)).setCell ⟨w.heap.size + 1, 1, none⟩ (.bool false)) = W5 at *
              obtain ⟨e0, e1, _⟩ := cells_two_z k5
              refine bodyPost_ret (v := .agg #[.slice none 0 0, .bool false]) (by simp [results, Tryz.results30, go_sem, e0, e1]) rfl ⟨none, 0, by rw [R1.out, R2.out]; rfl, ?_, HB5⟩
              rw [R1.out]; exact CellsAt.nil
            · have hd1 : decide ((n : Int) ≤ x) = false := decide_eq_false hx1
              obtain ⟨m, rfl⟩ : ∃ m : Nat, x = m := ⟨x.toNat, by omega⟩
              have hmn : m < n := by omega
              have hmI : (m : Int) < (n : Int) := by omega
              have Y1 : Hid (Fi.syms n l = Fi.syms n (l.drop (k + 1))) := by
                show _ = _
                rw [hYk, decide_eq_true (show 0 ≤ (m : Int) ∧ (m : Int) < (n : Int) from ⟨by omega, hmI⟩)]; rfl
              clear hYk hx0 hx1 hY
              have hal : (Fi.ofL (Nl.of g) ts g.terms.length (l.take k)).length = g.terms.length := Fi.ofL_len _ _ _ _
              have hbl : (Fi.ofL (Nl.of g) ts g.terms.length (l.take (k + 1))).length = g.terms.length := Fi.ofL_len _ _ _ _
              generalize Fi.ofL (Nl.of g) ts g.terms.length (l.take k) = av at *
              generalize hbv : Fi.ofL (Nl.of g) ts g.terms.length (l.take (k + 1)) = bv at *
              have BVE : Hid (Fi.ofL (Nl.of g) ts g.terms.length (l.take (k + 1)) = bv) := hbv
              clear hbv
              have A0 : Hid (wr.heap[I]? = some (.cells ((bv.take 0 ++ av.drop 0).map Value.bool).toArray 4 (0, 0))) := hA
              clear hA r13 HBw
              go_wp2_with fail
              have hmB : m < Bs.length := by omega
              go_loopw [10] (fun i wr => ∃ t : Nat, t ≤ g.terms.length ∧ i = .int .i64 t ∧ Hid (wr.heap[I]? = some (.cells ((bv.take t ++ av.drop t).map Value.bool).toArray 4 (0, 0))) ∧ Hid (ButL [I] W4 wr)) (fun i _ => g.terms.length - (intOf i).toNat)
              case atStart => exact ⟨0, Nat.zero_le _, rfl, A0, hbt⟩
              case round =>
                obtain ⟨t, ht, rfl, hA, hbt⟩ := hrel
                clear A0 x0
                have x0 := X0.out wr hbt.out
                have h3 := HWW.out wr hbt.out
                have hz := (Array.getElem?_eq_some_iff.1 hA.out).1
                have HR : Hid (RowsAt S g.terms.length Bs ts wr) := HR3.out.later (by rw [show w3.heap.size = I from IE.out]; exact h3)
                have HN : Hid (BoolsAt wr.heap.size wr no (Nl.of g)) := HN3.out.next (by rw [show w3.heap.size = I from IE.out]; exact h3)
                clear h3
                cases op
                · have e := LH.out hO.out.symm
                  have N1 : Hid (wr.heap[I]? = some (.cells (bv.map Value.bool).toArray 4 (0, 0))) := by
                    have := hA.out
                    rw [← e, List.take_append_drop] at this
                    exact this
                  have N2 : Hid (false = Nl.allIn (Nl.of g) (l.take (k + 1))) := by
                    show _ = _; rw [OS.out, ← hO.out]; rfl
                  clear hA e HR HN X0
                  by_cases htl : t < g.terms.length
                  · have hti : (t : Int) < (g.terms.length : Int) := by omega
                    go_wp2_with fail
                    go_roundw
                    case rel => exact ⟨k + 1, false, by omega, rfl, by go_num, N2, Y1, by rw [BVE.out]; exact N1, hbt⟩
                    case measure => simp [intOf]; omega
                  · have hti : ¬ (t : Int) < (g.terms.length : Int) := by omega
                    go_wp2_with fail
                    go_roundw
                    case rel => exact ⟨k + 1, false, by omega, rfl, by go_num, N2, Y1, by rw [BVE.out]; exact N1, hbt⟩
                    case measure => simp [intOf]; omega
                · by_cases htl : t < g.terms.length
                  · have hti : (t : Int) < (g.terms.length : Int) := by omega
                    have htb : t < bv.length := by omega
                    have hta : t < av.length := by omega
                    obtain ⟨hmx, emx⟩ := Fi.mix_get (a := av) (b := bv) (by omega) t htb
                    have c0 : wr.cell? ⟨I, t, none⟩ = some (.bool (av[t]'hta)) := by
                      rw [← emx]
                      have hlm : t < ((bv.take t ++ av.drop t).map Value.bool).length := by rw [List.length_map]; exact hmx
                      simp only [World.cell?, hA.out]
                      rw [List.getElem?_toArray, List.getElem?_eq_getElem hlm, List.getElem_map]
                      exact if_neg (by simp)
                    have f0 : wr.frozen? ⟨I, t, none⟩ = false := by simp [World.frozen?, hA.out]
                    have hb := LS.out t htl htb hta
                    rw [← hO.out, Bool.true_and] at hb
                    have N1 : Hid ((wr.setCell ⟨I, t, none⟩ (.bool (bv[t]'htb))).heap[I]? = some (.cells ((bv.take (t + 1) ++ av.drop (t + 1)).map Value.bool).toArray 4 (0, 0))) := by
                      have := bools_set hA.out t (bv[t]'htb)
                      rw [Fi.mix_set (by omega) t htb] at this
                      exact this
                    have N2 : Hid (ButL [I] W4 (wr.setCell ⟨I, t, none⟩ (.bool (bv[t]'htb)))) := hbt.out.setCell (List.mem_cons_self ..) _ _
                    have hSl := HR.out.lt.1
                    have d0 := HR.out.head m hmB
                    obtain ⟨d1, _⟩ := HR.out.cell m t hmB htl
                    have hbm := HR.out.lt.2 _ (List.getElem_mem hmB)
                    clear hA emx hmx HR HN
                    rw [hb] at N1 N2
                    clear hb
                    generalize av[t]'hta = y at *
                    generalize Bs[m] = Bm at *
                    generalize Fi.has ts (m : Int) (t : Int) = z at *
                    cases y
                    · simp only [Bool.false_or] at N1 N2
                      go_wp2_with fail
                      go_roundw
                      case rel => exact ⟨t + 1, by omega, by go_num, N1, N2⟩
                      case measure => simp [intOf]; omega
                    · simp only [Bool.true_or] at N1 N2
                      go_wp2_with fail
                      go_roundw
                      case rel => exact ⟨t + 1, by omega, by go_num, N1, N2⟩
                      case measure => simp [intOf]; omega
                  · obtain rfl : t = g.terms.length := by omega
                    have hti : ¬ (g.terms.length : Int) < (g.terms.length : Int) := by omega
                    have N1 : Hid (wr.heap[I]? = some (.cells (bv.map Value.bool).toArray 4 (0, 0))) := by
                      have := hA.out
                      rw [List.take_of_length_le (by omega), List.drop_of_length_le (by omega), List.append_nil] at this
                      exact this
                    obtain ⟨nb, nof, rfl, _, _, n0⟩ := BoolsAt.get HN.out m (by rw [hnl]; exact hmn)
                    have e : Nl.isAt (Nl.of g) (m : Int) = (Nl.of g)[m]'(by rw [hnl]; exact hmn) := by rw [Nl.isAt_get (by omega) (by simp [hnl]; exact hmn)]; simp
                    have N2 : Hid ((Nl.of g)[m]'(by rw [hnl]; exact hmn) = Nl.allIn (Nl.of g) (l.take (k + 1))) := by
                      show _ = _; rw [OS.out, ← hO.out, e]; rfl
                    clear hA HR HN e X0 LS LH
                    generalize (Nl.of g)[m]'(by rw [hnl]; exact hmn) = y at *
                    go_wp2_with fail
                    go_roundw
                    case rel => exact ⟨k + 1, y, by omega, rfl, by go_num, N2, Y1, by rw [BVE.out]; exact N1, hbt⟩
                    case measure => simp [intOf]; omega
        · obtain rfl : k = l.length := by omega
          have hki : ¬ (l.length : Int) < (l.length : Int) := by omega
          have SY : Fi.syms n l = true := by rw [hY.out, List.drop_length]; rfl
          have R1 : Hid _ := RL.out SY
          have R2 : Hid (Fi.okG g l = true) := by show _ = _; rw [RO.out, SY]
          have hA2 := hA.out
          rw [List.take_length] at hA2
          have hof : (Fi.ofL (Nl.of g) ts g.terms.length l).length = g.terms.length := Fi.ofL_len _ _ _ _
          have HLI : Hid _ := reflist_any (Fi.ofL (Nl.of g) ts g.terms.length l) (some ⟨I, 0, none⟩) g.terms.length wr (bools_block hA2) (by omega)
          rw [hof] at HLI
          generalize Fi.ofL (Nl.of g) ts g.terms.length l = bv at *
          clear hA hA2 hbt SY
          go_wp2_with (go_at_call 55; fail)
          refine Calls.mono HLI.out ?_
          rintro e w7 ⟨v, rfl, hov, hb7⟩
          obtain ⟨vo, vc, rfl, hrd, _⟩ := OwnInts.read hov.out
          have r17 : Hid _ := (hb7.out.block _ (Array.getElem?_eq_some_iff.1 r13.out).1).trans r13.out
          have HB7 : Hid (Below w.heap.size w w7) := HBw.out.trans (hb7.out.mono HBw.out.size)
          obtain ⟨d0, d1, z0, z1⟩ := cells_two_z r17.out
          have hbl := (Array.getElem?_eq_some_iff.1 r17.out).1
          have hrl := Fi.rise
          have k5 := rset2 (z := .slice vo (Fi.rise bv).length vc) (u := .bool true) r17.out
          have hov2 : OwnInts wr.heap.size ((w7.setCell ⟨w.heap.size + 1, 0, none⟩ (.slice vo (Fi.rise bv).length vc)).setCell ⟨w.heap.size + 1, 1, none⟩ (.bool true)) (.slice vo (Fi.rise bv).length vc) (Fi.rise bv) := by
            have hz := (Array.getElem?_eq_some_iff.1 r13.out).1
            exact ownsRow_setCell_below (ownsRow_setCell_below hov.out (by show w.heap.size + 1 < wr.heap.size; exact hz) _) (by show w.heap.size + 1 < wr.heap.size; exact hz) _
          have HBF : Hid (Below w.heap.size w ((w7.setCell ⟨w.heap.size + 1, 0, none⟩ (.slice vo (Fi.rise bv).length vc)).setCell ⟨w.heap.size + 1, 1, none⟩ (.bool true))) := (HB7.out.setCell (by show w.heap.size ≤ w.heap.size + 1; omega) _).setCell (by show w.heap.size ≤ w.heap.size + 1; omega) _
          clear hrl hov hrd
          go_wp2_with fail
          generalize ((w7.setCell ⟨w.heap.size + 1, 0, none⟩ (.slice vo (Fi.rise bv).length vc)).setCell ⟨w.heap.size + 1, 1, none⟩ (.bool true)) = W8 at *
          obtain ⟨e0, e1, _⟩ := cells_two_z k5
          have hfr : IntsAt W8.heap.size W8 vo (Fi.rise bv) := by
            obtain ⟨ao, c, e, h1, _⟩ := OwnInts.read hov2
            simp only [Value.slice.injEq] at e
            obtain ⟨rfl, _⟩ := e
            exact h1.size
          refine bodyPost_ret (v := .agg #[.slice vo (Fi.rise bv).length vc, .bool true]) (by simp [results, Tryz.results30, go_sem, e0, e1]) rfl ⟨vo, vc, by rw [R1.out, R2.out], ?_, HBF⟩
          rw [R1.out]; exact hfr
end Go.Proofs.YtdocbgfpnaiijaaGreat
