/-
  Layer 10 (depend): firstOf, Components.
  Layer 10 (depend): Inner.
-/
import Derived.Test.YtdocbgfpnaiijaaDpOn
namespace Go.Proofs.Ytdocbgfpnaiijaa
open Go.RowKit Go.Conc

/-- do both hang on each other? -/
def Dp.both (ts : List (List Bool)) (n o : Nat) : Bool := Fi.has ts (n : Int) (o : Int) && Fi.has ts (o : Int) (n : Int)
/-- the first one of a component -/
def Dp.first (ts : List (List Bool)) (n : Nat) : Nat := ((List.range n).find? (Dp.both ts n)).getD n
theorem Dp.first_none {ts : List (List Bool)} {n : Nat} (h : ∀ o, o < n → Dp.both ts n o = false) : Dp.first ts n = n := by
  unfold Dp.first
  rw [List.find?_eq_none.2 fun o ho => by rw [h o (List.mem_range.1 ho)]; simp]
  rfl
theorem Dp.first_some {ts : List (List Bool)} {n k : Nat} (hk : k < n) (h : ∀ o, o < k → Dp.both ts n o = false) (hb : Dp.both ts n k = true) : Dp.first ts n = k := by
  unfold Dp.first
  have e : List.range n = List.range k ++ (k :: List.range' (k + 1) (n - (k + 1))) := by
    have h1 : List.range n = List.range' 0 k ++ List.range' (0 + 1 * k) (n - k) := by rw [List.range'_append, List.range_eq_range']; congr 1; omega
    rw [h1, ← List.range_eq_range']
    congr 1
    rw [show n - k = (n - (k + 1)) + 1 by omega, List.range'_succ]
    simp
  rw [e, List.find?_append, List.find?_eq_none.2 fun o ho => by rw [h o (List.mem_range.1 ho)]; simp]
  simp [hb]
/-- of each nonterminal the first one of its component -/
noncomputable def Dp.compG (g : Gr.Gm) (wo : List (Int × Int)) : List Int := (List.range (Dp.onG g wo).length).map fun (i : Nat) => ((Dp.first (Dp.onG g wo) i : Nat) : Int)

theorem Fi.has_get9 {ts : List (List Bool)} {i j : Nat} (hi : i < ts.length) (hj : j < ts[i].length) : Fi.has ts (i : Int) (j : Int) = ts[i][j] := by
  have e : Fi.row ts (i : Int) = ts[i] := by simp [Fi.row, List.getD_eq_getElem?_getD, hi]
  unfold Fi.has
  rw [e, Nl.isAt_get (by omega) (by simpa using hj)]
  simp

set_option maxHeartbeats 1600000 in
theorem firstOf_any (ts : List (List Bool)) (N : Nat) (hs : Fi.Shape N N ts) (h80 : N ≤ 80) (xo : Option Addr) (xc n : Nat) (hn : n < N) (w : World) (h : BLisAt w xo ts) :
    Calls Try.prog 44 #[.slice xo ts.length xc, .int .i64 (n : Int)] w fun e w' => e = .returned (.int .i64 ((Dp.first ts n : Nat) : Int)) ∧ w' = w := by
  have hl : ts.length = N := hs.len
  have HT : Hid (BLisAt w xo ts) := h
  have HS : Hid _ := hs
  have hni : (n : Int) < (ts.length : Int) := by omega
  have hnt : n < ts.length := by omega
  clear h hs
  go_enter Try.func44, Try.ntmps44
  go_wp2_with fail
  go_loopw [7] (fun i wr => ∃ k : Nat, k ≤ n ∧ i = .int .i64 k ∧ wr = w ∧ Hid (∀ o, o < k → Dp.both ts n o = false)) (fun i _ => n - (intOf i).toNat)
  case atStart => exact ⟨0, Nat.zero_le _, rfl, rfl, fun o ho => by omega⟩
  case round =>
    obtain ⟨k, hk, rfl, rfl, hF⟩ := hrel
    by_cases hkl : k < n
    · have hki : (k : Int) < (n : Int) := by omega
      have hki2 : (k : Int) < (ts.length : Int) := by omega
      have hkt : k < ts.length := by omega
      have hrn : ts[n].length = N := HS.out.each _ (List.getElem_mem hnt)
      have hrk : ts[k].length = N := HS.out.each _ (List.getElem_mem hkt)
      obtain ⟨b, o, ro, rc, rfl, hbl, c0, hB0⟩ := HT.out n hnt
      obtain ⟨b2, o2, ro2, rc2, e, _, c1, hB1⟩ := HT.out k hkt
      simp only [Option.some.injEq, Addr.mk.injEq] at e
      obtain ⟨rfl, rfl, _⟩ := e
      have hjn : k < ts[n].length := by omega
      have hjk : n < ts[k].length := by omega
      obtain ⟨d1, p1, rfl, _, hd1, y0⟩ := BoolsAt.get hB0 k hjn
      obtain ⟨d2, p2, rfl, _, hd2, y1⟩ := BoolsAt.get hB1 n hjk
      have E1 : Fi.has ts (n : Int) (k : Int) = ts[n][k] := Fi.has_get9 hnt hjn
      have E2 : Fi.has ts (k : Int) (n : Int) = ts[k][n] := Fi.has_get9 hkt hjk
      rw [← E1] at y0
      rw [← E2] at y1
      have BO : Hid (Dp.both ts n k = (Fi.has ts (n : Int) (k : Int) && Fi.has ts (k : Int) (n : Int))) := rfl
      rw [hrn] at c0
      rw [hrk] at c1
      have hkN : (k : Int) < (N : Int) := by omega
      have hnN : (n : Int) < (N : Int) := by omega
      clear hB0 hB1 E1 E2 hjn hjk hrn hrk
      generalize Fi.has ts (n : Int) (k : Int) = u at *
      generalize Fi.has ts (k : Int) (n : Int) = v at *
      cases u
      · have N1 : Hid (∀ o, o < k + 1 → Dp.both ts n o = false) := fun o ho => by
          by_cases e : o = k
          · subst e; rw [BO.out]; rfl
          · exact hF.out o (by omega)
        clear hF BO
        go_wp2_with fail
        go_roundw
        case rel => exact ⟨k + 1, by omega, by go_num, trivial, N1⟩
        case measure => simp [intOf]; omega
      · cases v
        · have N1 : Hid (∀ o, o < k + 1 → Dp.both ts n o = false) := fun o ho => by
            by_cases e : o = k
            · subst e; rw [BO.out]; rfl
            · exact hF.out o (by omega)
          clear hF BO
          go_wp2_with fail
          go_roundw
          case rel => exact ⟨k + 1, by omega, by go_num, trivial, N1⟩
          case measure => simp [intOf]; omega
        · have R : Hid (Dp.first ts n = k) := Dp.first_some hkl hF.out (by rw [BO.out]; rfl)
          clear hF BO
          go_wp2_with fail
          go_ret
          exact ⟨by rw [R.out]; rfl, rfl⟩
    · obtain rfl : k = n := by omega
      have hki : ¬ (k : Int) < (k : Int) := by omega
      have R : Hid (Dp.first ts k = k) := Dp.first_none hF.out
      clear hF
      go_wp2_with fail
      go_ret
      exact ⟨by rw [R.out]; rfl, rfl⟩

set_option maxRecDepth 100000 in
set_option maxHeartbeats 3200000 in
theorem dpcomps_own (g : Gr.Gm) (A : GA) (wo : List (Int × Int)) (so : Option Addr) (sc : Nat) (w : World) (hm : ∀ x ∈ g.rules, x.2.length ≤ maxLen) (h : GmAt w.heap.size w g A) (hwo : SpotsAt w.heap.size w so wo) (h4 : wo.length ≤ 4000) :
    Calls Try.prog 23 #[.agg (gmCells g A), .slice so wo.length sc] w fun e w' => ∃ v, e = .returned v ∧ Hid (OwnInts w.heap.size w' v (Dp.compG g wo)) ∧ Hid (Below w.heap.size w w') := by
  obtain ⟨ta, tc, na, nc, ra, rc⟩ := A
  have hB0 : Hid (Below w.heap.size w (w.alloc (Obj.cells #[.slice ta g.terms.length tc, .slice na g.names.length nc, .slice ra g.rules.length rc] 25))) := (Below.refl _ w).alloc (Nat.le_refl _) _
  have HON : Hid (∀ W : World, Below w.heap.size w W → Calls Try.prog 17 #[.agg (gmCells g ⟨ta, tc, na, nc, ra, rc⟩), .slice so wo.length sc] W fun e w' => ∃ xo xc, e = .returned (.slice xo (Dp.onG g wo).length xc) ∧ Hid (BLisAt w' xo (Dp.onG g wo)) ∧ Hid (Below W.heap.size W w')) := fun W hW => dpon_is g _ wo so sc W hm (h.next hW) (hwo.next hW) h4
  have HFO : Hid (∀ (W : World) (xo : Option Addr) (xc n : Nat), n < (Dp.onG g wo).length → BLisAt W xo (Dp.onG g wo) → Calls Try.prog 44 #[.slice xo (Dp.onG g wo).length xc, .int .i64 (n : Int)] W fun e w' => e = .returned (.int .i64 ((Dp.first (Dp.onG g wo) n : Nat) : Int)) ∧ w' = W) := fun W xo xc n hn hb => by
    cases hg : Gr.good g
    · simp [Dp.onG, hg] at hn
    · have hsh := Dp.onG_shape hg wo
      exact firstOf_any _ g.names.length hsh (by have := (Nl.sizes_of hg).1; omega) xo xc n (by rw [← hsh.len]; exact hn) W hb
  have hL40 : (Dp.onG g wo).length ≤ 40 := by
    cases hg : Gr.good g
    · simp [Dp.onG, hg]
    · rw [(Dp.onG_shape hg wo).len]; have := (Nl.sizes_of hg).1; omega
  have R : Hid (Dp.compG g wo = (List.range (Dp.onG g wo).length).map fun (i : Nat) => ((Dp.first (Dp.onG g wo) i : Nat) : Int)) := rfl
  clear hm h hwo
  generalize Dp.compG g wo = cs at *
  generalize Dp.onG g wo = ts at *
  simp only [gmCells] at HON ⊢
  go_enter Try.func23, Try.ntmps23
  go_wp2_with (go_at_call 17; fail)
  generalize (w.alloc (Obj.cells #[.slice ta g.terms.length tc, .slice na g.names.length nc, .slice ra g.rules.length rc] 25)) = W at *
  refine Calls.mono (HON.out _ hB0.out) ?_
  rintro e w2 ⟨xo, xc, rfl, hO, hb2⟩
  have HB2 : Hid (Below w.heap.size w w2) := hB0.out.trans (hb2.out.mono hB0.out.size)
  clear hB0 hb2 HON
  go_wp2_with fail
  go_loopw [6, 13] (fun v iv wr => ∃ (k : Nat) (yo : Option Addr) (yc : Nat), k ≤ ts.length ∧ iv = .int .i64 k ∧ v = .slice yo k yc ∧ Hid (OwnInts w2.heap.size wr (.slice yo k yc) ((List.range k).map fun (i : Nat) => ((Dp.first ts i : Nat) : Int))) ∧ Hid (Below w2.heap.size w2 wr)) (fun _ iv _ => ts.length - (intOf iv).toNat)
  case atStart => exact ⟨0, none, 0, Nat.zero_le _, rfl, rfl, World.ownsRow_nil _ _ _ _, Below.refl _ _⟩
  case round =>
    obtain ⟨k, yo, yc, hk, rfl, rfl, hS, hB⟩ := hrel
    by_cases hkl : k < ts.length
    · have hki : (k : Int) < (ts.length : Int) := by omega
      have HF1 : Hid _ := HFO.out wr xo xc k hkl (hO.out.next hB.out)
      go_wp2_with (go_at_call 44; fail)
      refine Calls.mono HF1.out ?_
      rintro e w6 ⟨rfl, e6⟩
      subst w6
      have ST : Hid ((List.range (k + 1)).map (fun (i : Nat) => ((Dp.first ts i : Nat) : Int)) = (List.range k).map (fun (i : Nat) => ((Dp.first ts i : Nat) : Int)) ++ [((Dp.first ts k : Nat) : Int)]) := by show _ = _; rw [List.range_succ, List.map_append]; rfl
      have hll : ((List.range k).map fun (i : Nat) => ((Dp.first ts i : Nat) : Int)).length = k := by simp
      generalize Dp.first ts k = f at *
      generalize (List.range k).map (fun (i : Nat) => ((Dp.first ts i : Nat) : Int)) = pre at *
      have hb2 : Hid (Below wr.heap.size wr (wr.alloc (Obj.cells #[.int .i64 (f : Int)] 3))) := (Below.refl _ wr).alloc (Nat.le_refl _) _
      have HO2 : Hid (OwnInts w2.heap.size (wr.alloc (Obj.cells #[.int .i64 (f : Int)] 3)) (.slice yo k yc) pre) := ownsRow_below hS.out hb2.out
      have HB3 : Hid (Below w2.heap.size w2 (wr.alloc (Obj.cells #[.int .i64 (f : Int)] 3))) := hB.out.trans (hb2.out.mono hB.out.size)
      have hbase := HB3.out.size
      clear hS hB hb2 HF1
      go_wp2_with (at_builtin; refine wpList_append_oint rfl _ _ rfl w2.heap.size _ pre rfl HO2.out wr.heap.size 1 f rfl (by simp [go_sem]) (by omega) hbase ?_; intro ga cap w3 ho3 hg3)
      have HB4 : Hid (Below w2.heap.size w2 w3) := HB3.out.grown hg3 hbase (fun q hq => (HO2.out.lt q hq).1)
      have HO4 : Hid (OwnInts w2.heap.size w3 (.slice (some ⟨ga, 0, none⟩) (k + 1) cap) ((List.range (k + 1)).map fun (i : Nat) => ((Dp.first ts i : Nat) : Int))) := by
        show OwnInts _ _ _ _
        rw [ST.out]; rw [hll] at ho3; exact ho3
      clear ho3 hg3 HO2 HB3
      go_roundw
      case rel => exact ⟨k + 1, _, _, by omega, by go_num, rfl, HO4, HB4⟩
      case measure => simp [intOf]; omega
    · obtain rfl : k = ts.length := by omega
      have hki : ¬ (ts.length : Int) < (ts.length : Int) := by omega
      have HF : Hid (OwnInts w.heap.size wr (.slice yo ts.length yc) cs) := by
        show OwnInts _ _ _ _
        rw [R.out]
        exact ownsRow_from hS.out HB2.out.size
      have HBf : Hid (Below w.heap.size w wr) := HB2.out.trans (hB.out.mono HB2.out.size)
      clear hS hB
      go_wp2_with fail
      go_ret
      exact ⟨_, rfl, HF, HBf⟩
end Go.Proofs.Ytdocbgfpnaiijaa

namespace Go.Proofs.Ytdocbgfpnaiijaa
open Go.RowKit Go.Conc

/-- are an occurrence's two of one component? -/
noncomputable def Dp.isIn (g : Gr.Gm) (wo : List (Int × Int)) (s : Int × Int) : Bool := (Dp.compG g wo).getD (Dp.link g.terms.length g.rules s).1.toNat 0 == (Dp.compG g wo).getD (Dp.link g.terms.length g.rules s).2.toNat 0
noncomputable def Dp.innerG (g : Gr.Gm) (wo : List (Int × Int)) : List (Int × Int) := (Dp.spotsG g wo).filter (Dp.isIn g wo)
theorem Dp.spotsG_len (g : Gr.Gm) (wo : List (Int × Int)) : (Dp.spotsG g wo).length ≤ 480 := by
  unfold Dp.spotsG
  split
  · rename_i hg
    have hsz := Nl.sizes_of hg
    exact Nat.le_trans (Dp.spotsTo_len hsz.2 _ (Nat.le_refl _)) (by have := hsz.1; omega)
  · simp
theorem Dp.compG_len {g : Gr.Gm} (hg : Gr.good g = true) (wo : List (Int × Int)) : (Dp.compG g wo).length = g.names.length := by
  unfold Dp.compG
  rw [List.length_map, List.length_range, (Dp.onG_shape hg wo).len]

set_option maxRecDepth 100000 in
set_option maxHeartbeats 6400000 in
theorem dpinner_own (g : Gr.Gm) (A : GA) (wo : List (Int × Int)) (so : Option Addr) (sc : Nat) (w : World) (hm : ∀ x ∈ g.rules, x.2.length ≤ maxLen) (h : GmAt w.heap.size w g A) (hwo : SpotsAt w.heap.size w so wo) (h4 : wo.length ≤ 4000) :
    Calls Try.prog 25 #[.agg (gmCells g A), .slice so wo.length sc] w fun e w' => ∃ v, e = .returned v ∧ Hid (OwnSpots w.heap.size w' v (Dp.innerG g wo)) ∧ Hid (Below w.heap.size w w') := by
  obtain ⟨ta, tc, na, nc, ra, rc⟩ := A
  have HG : Hid (GmAt w.heap.size w g ⟨ta, tc, na, nc, ra, rc⟩) := h
  have hB0 : Hid (Below w.heap.size w (w.alloc (Obj.cells #[.slice ta g.terms.length tc, .slice na g.names.length nc, .slice ra g.rules.length rc] 25))) := (Below.refl _ w).alloc (Nat.le_refl _) _
  have b0 : Hid ((w.alloc (Obj.cells #[.slice ta g.terms.length tc, .slice na g.names.length nc, .slice ra g.rules.length rc] 25)).heap[w.heap.size]? = some (.cells #[.slice ta g.terms.length tc, .slice na g.names.length nc, .slice ra g.rules.length rc] 25 (0, 0))) := heap_alloc_new w _
  have HCO : Hid (∀ W : World, Below w.heap.size w W → Calls Try.prog 23 #[.agg (gmCells g ⟨ta, tc, na, nc, ra, rc⟩), .slice so wo.length sc] W fun e w' => ∃ v, e = .returned v ∧ Hid (OwnInts W.heap.size w' v (Dp.compG g wo)) ∧ Hid (Below W.heap.size W w')) := fun W hW => dpcomps_own g _ wo so sc W hm (h.next hW) (hwo.next hW) h4
  have HSB : Hid (∀ W : World, Below w.heap.size w W → Calls Try.prog 43 #[.agg (gmCells g ⟨ta, tc, na, nc, ra, rc⟩), .slice so wo.length sc] W fun e w' => ∃ v, e = .returned v ∧ Hid (OwnSpots W.heap.size w' v (Dp.spotsG g wo)) ∧ Hid (Below W.heap.size W w')) := fun W hW => spotsBut_any g _ wo so sc W hm (h.next hW) (hwo.next hW) h4
  have hl4 := Dp.spotsG_len g wo
  have R : Hid (Dp.innerG g wo = (Dp.spotsG g wo).filter (Dp.isIn g wo)) := rfl
  have HIN : Hid (∀ s ∈ Dp.spotsG g wo, Gr.good g = true ∧ ∃ r, ∃ hr : r < g.rules.length, ∃ k, ∃ hk : k < g.rules[r].2.length, (g.terms.length : Int) ≤ g.rules[r].2[k] ∧ s = ((r : Int), (k : Int))) := fun s hs => by
    unfold Dp.spotsG at hs
    split at hs
    · rename_i hg
      exact ⟨hg, Dp.but_in s hs⟩
    · simp at hs
  have HCL : Hid (Gr.good g = true → (Dp.compG g wo).length = g.names.length) := fun hg => Dp.compG_len hg wo
  have HII : Hid (∀ s, Dp.isIn g wo s = ((Dp.compG g wo).getD (Dp.link g.terms.length g.rules s).1.toNat 0 == (Dp.compG g wo).getD (Dp.link g.terms.length g.rules s).2.toNat 0)) := fun s => rfl
  clear hm h hwo
  generalize Dp.innerG g wo = inn at *
  generalize Dp.compG g wo = cs at *
  generalize Dp.spotsG g wo = l at *
  generalize Dp.isIn g wo = pin at *
  simp only [gmCells] at HCO HSB ⊢
  go_enter Try.func25, Try.ntmps25
  go_wp2_with (go_at_call 23; fail)
  generalize (w.alloc (Obj.cells #[.slice ta g.terms.length tc, .slice na g.names.length nc, .slice ra g.rules.length rc] 25)) = W at *
  refine Calls.mono (HCO.out _ hB0.out) ?_
  rintro e w1 ⟨v1, rfl, hC1, hb1⟩
  obtain ⟨co, cc, rfl, hCI, _⟩ := OwnInts.read hC1.out
  have CI1 : Hid (IntsAt w1.heap.size w1 co cs) := hCI
  have HB1 : Hid (Below w.heap.size w w1) := hB0.out.trans (hb1.out.mono hB0.out.size)
  have b1 : Hid (w1.heap[w.heap.size]? = some (.cells #[.slice ta g.terms.length tc, .slice na g.names.length nc, .slice ra g.rules.length rc] 25 (0, 0))) := (hb1.out.block _ (Array.getElem?_eq_some_iff.1 b0.out).1).trans b0.out
  obtain ⟨g0, g1, g2, _⟩ := cells_three_z b1.out
  have hgz := (Array.getElem?_eq_some_iff.1 b1.out).1
  clear hb1 b0 hB0 HCO hC1 hCI
  go_wp2_with (go_at_call 43; fail)
  refine Calls.mono (HSB.out _ HB1.out) ?_
  rintro e w2 ⟨v2, rfl, hS2, hb2⟩
  obtain ⟨lo, lc, rfl, hSI⟩ := OwnSpots.read hS2.out
  have SI2 : Hid (SpotsAt w2.heap.size w2 lo l) := hSI
  have HB2 : Hid (Below w.heap.size w w2) := HB1.out.trans (hb2.out.mono HB1.out.size)
  have b2 : Hid (w2.heap[w.heap.size]? = some (.cells #[.slice ta g.terms.length tc, .slice na g.names.length nc, .slice ra g.rules.length rc] 25 (0, 0))) := (hb2.out.block _ (Array.getElem?_eq_some_iff.1 b1.out).1).trans b1.out
  have CI2 : Hid (IntsAt w2.heap.size w2 co cs) := IntsAt.size (CI1.out.later hb2.out)
  clear g0 g1 g2 hgz b1 HB1 CI1 hb2 HSB hS2 hSI
  have S0 : Hid (OwnSpots w2.heap.size w2 (.slice none 0 0) ((l.take 0).filter pin)) := OwnSpots.nil _ _
  go_wp2_with fail
  go_loopw [6, 17] (fun v iv wr => ∃ (m : Nat) (xo : Option Addr) (xc : Nat), m ≤ l.length ∧ iv = .int .i64 m ∧ v = .slice xo ((l.take m).filter pin).length xc ∧ Hid (OwnSpots w2.heap.size wr (.slice xo ((l.take m).filter pin).length xc) ((l.take m).filter pin)) ∧ Hid (Below w2.heap.size w2 wr)) (fun _ iv _ => l.length - (intOf iv).toNat)
  case atStart => exact ⟨0, none, 0, Nat.zero_le _, rfl, rfl, S0, Below.refl _ _⟩
  case round =>
    obtain ⟨m, xo, xc, hm, rfl, rfl, hS, hB⟩ := hrel
    clear S0
    by_cases hml : m < l.length
    · have hmi : (m : Int) < (l.length : Int) := by omega
      obtain ⟨hg, r, hr, k, hk, hxT, hsE⟩ := HIN.out _ (List.getElem_mem hml)
      have hmem : g.rules[r] ∈ g.rules := List.getElem_mem hr
      have hlf := (Nl.fit_of hg).left _ hmem
      have hxf := (Nl.fit_of hg).right _ hmem _ (List.getElem_mem hk)
      obtain ⟨fa, hfa⟩ : ∃ fa : Nat, g.rules[r].1 - (g.terms.length : Int) = fa := ⟨(g.rules[r].1 - (g.terms.length : Int)).toNat, by omega⟩
      obtain ⟨ft, hft⟩ : ∃ ft : Nat, g.rules[r].2[k] - (g.terms.length : Int) = ft := ⟨(g.rules[r].2[k] - (g.terms.length : Int)).toNat, by omega⟩
      have hcl := HCL.out hg
      have hfaC : fa < cs.length := by omega
      have hftC : ft < cs.length := by omega
      have LE : Dp.link g.terms.length g.rules ((r : Int), (k : Int)) = ((fa : Int), (ft : Int)) := by rw [Dp.link_at hr hk, hfa, hft]
      have hpin : pin l[m] = (cs[fa] == cs[ft]) := by
        rw [HII.out, hsE, LE]
        simp [List.getD_eq_getElem?_getD, hfaC, hftC]
      have TK : l.take (m + 1) = l.take m ++ [l[m]] := by rw [List.take_add_one, List.getElem?_eq_getElem hml]; rfl
      have FY : Hid ((cs[fa] == cs[ft]) = true → (l.take (m + 1)).filter pin = (l.take m).filter pin ++ [((r : Int), (k : Int))]) := fun q => by
        rw [TK, List.filter_append, List.filter_cons_of_pos (by rw [hpin, q]), List.filter_nil, hsE]
      have FN : Hid ((cs[fa] == cs[ft]) = false → (l.take (m + 1)).filter pin = (l.take m).filter pin) := fun q => by
        rw [TK, List.filter_append, List.filter_cons_of_neg (by rw [hpin, q]; simp), List.filter_nil, List.append_nil]
      have hfl : ((l.take m).filter pin).length ≤ 480 := Nat.le_trans (List.length_filter_le _ _) (by rw [List.length_take]; omega)
      have BWr : Hid (Below w.heap.size w wr) := HB2.out.trans (hB.out.mono HB2.out.size)
      have GBr : Hid (wr.heap[w.heap.size]? = some (.cells #[.slice ta g.terms.length tc, .slice na g.names.length nc, .slice ra g.rules.length rc] 25 (0, 0))) := (hB.out.block _ (Array.getElem?_eq_some_iff.1 b2.out).1).trans b2.out
      obtain ⟨xb, xof, rfl, _, _, x0, x1⟩ := (SI2.out.later hB.out) m hml
      rw [hsE] at x0 x1
      simp only at x0 x1
      have hxl := World.block_lt_of_cell? _ _ x0
      have hb5 : Hid (Below wr.heap.size wr (wr.alloc (Obj.cells #[.int .i64 (r : Int), .int .i64 (k : Int)] 48))) := (Below.refl _ wr).alloc (Nat.le_refl _) _
      have k5 : Hid ((wr.alloc (Obj.cells #[.int .i64 (r : Int), .int .i64 (k : Int)] 48)).heap[wr.heap.size]? = some (.cells #[.int .i64 (r : Int), .int .i64 (k : Int)] 48 (0, 0))) := heap_alloc_new wr _
      clear hpin TK hsE hmem hlf hxf hfa hft hcl
      go_upto_region 6 with fail
      generalize (wr.alloc (Obj.cells #[.int .i64 (r : Int), .int .i64 (k : Int)] 48)) = W5 at *
      obtain ⟨R9, hRe⟩ : ∃ R9, wr.heap.size = R9 := ⟨_, rfl⟩
      clear x0 x1 hxl
      have BW5 : Hid (Below w.heap.size w W5) := BWr.out.trans (hb5.out.mono BWr.out.size)
      have HLO : Hid (Calls Try.prog 45 #[.agg (gmCells g ⟨ta, tc, na, nc, ra, rc⟩), .agg #[.int .i64 (r : Int), .int .i64 (k : Int)]] W5 fun e w' => e = .returned (.agg #[.int .i64 (fa : Int), .int .i64 (ft : Int)]) ∧ Hid (Below W5.heap.size W5 w')) := by
        have := linkOf_any g ⟨ta, tc, na, nc, ra, rc⟩ r k W5 hr hk hg (HG.out.next BW5.out)
        rw [LE] at this
        exact this
      simp only [gmCells] at HLO
      obtain ⟨g0, g1, g2, _⟩ := cells_three_z ((hb5.out.block _ (Array.getElem?_eq_some_iff.1 GBr.out).1).trans GBr.out)
      have hgz5 := Nat.lt_of_lt_of_le (Array.getElem?_eq_some_iff.1 GBr.out).1 hb5.out.size
      obtain ⟨q0, q1, _⟩ := cells_two_z k5.out
      have hqz := (Array.getElem?_eq_some_iff.1 k5.out).1
      rw [hRe] at q0 q1 hqz ⊢
      go_wp2_with (go_at_call 45; fail)
      refine Calls.mono HLO.out ?_
      rintro e w6 ⟨rfl, hb6⟩
      have hb7 : Hid (Below w6.heap.size w6 (w6.alloc (Obj.cells #[.int .i64 (fa : Int), .int .i64 (ft : Int)] 75))) := (Below.refl _ w6).alloc (Nat.le_refl _) _
      have k7 : Hid ((w6.alloc (Obj.cells #[.int .i64 (fa : Int), .int .i64 (ft : Int)] 75)).heap[w6.heap.size]? = some (.cells #[.int .i64 (fa : Int), .int .i64 (ft : Int)] 75 (0, 0))) := heap_alloc_new w6 _
      have hz56 := hb5.out.size
      have hz66 := hb6.out.size
      have B7 : Hid (Below wr.heap.size wr (w6.alloc (Obj.cells #[.int .i64 (fa : Int), .int .i64 (ft : Int)] 75))) := (hb5.out.trans (hb6.out.mono hb5.out.size)).trans (hb7.out.mono (by omega))
      have k57 : Hid ((w6.alloc (Obj.cells #[.int .i64 (fa : Int), .int .i64 (ft : Int)] 75)).heap[R9]? = some (.cells #[.int .i64 (r : Int), .int .i64 (k : Int)] 48 (0, 0))) := by
        show _ = _
        have h5 := k5.out
        rw [hRe] at h5
        rw [hb7.out.block _ (by omega), hb6.out.block _ (Array.getElem?_eq_some_iff.1 h5).1]
        exact h5
      clear g0 g1 g2 hgz5 q0 q1 hqz HLO hb5 k5 hb6 hb7 hxT LE
      go_upto_region 7 with fail
      generalize (w6.alloc (Obj.cells #[.int .i64 (fa : Int), .int .i64 (ft : Int)] 75)) = Wq at *
      generalize w6.heap.size = X at *
      have hS7 : Hid (OwnSpots w2.heap.size Wq (.slice xo ((l.take m).filter pin).length xc) ((l.take m).filter pin)) := hS.out.below B7.out
      have hB7 : Hid (Below w2.heap.size w2 Wq) := hB.out.trans (B7.out.mono hB.out.size)
      have CI7 : Hid (IntsAt Wq.heap.size Wq co cs) := IntsAt.size (CI2.out.later hB7.out)
      obtain ⟨cb, cof, rfl, _, _, _⟩ := IntsAt.get CI7.out fa hfaC
      have hai : (fa : Int) < (cs.length : Int) := by omega
      have hti : (ft : Int) < (cs.length : Int) := by omega
      have HC : Hid (∀ w1 : World, Lat Wq.drew w1 → w1.cell? ⟨X, 0, none⟩ = some (.int .i64 (fa : Int)) ∧ w1.cell? ⟨X, 1, none⟩ = some (.int .i64 (ft : Int)) ∧ w1.cell? ⟨cb, cof + fa, none⟩ = some (.int .i64 cs[fa]) ∧ w1.cell? ⟨cb, cof + ft, none⟩ = some (.int .i64 cs[ft])) := fun w1 hL => by
        obtain ⟨p0, p1, _⟩ := cells_two_z k7.out
        have hC := IntsAt.later CI7.out hL.of_drew
        obtain ⟨b', o', e, _, _, c0⟩ := IntsAt.get hC fa hfaC
        simp only [Option.some.injEq, Addr.mk.injEq] at e
        obtain ⟨rfl, rfl, _⟩ := e
        obtain ⟨b'', o'', e, _, _, c1⟩ := IntsAt.get hC ft hftC
        simp only [Option.some.injEq, Addr.mk.injEq] at e
        obtain ⟨rfl, rfl, _⟩ := e
        exact ⟨cell_later hL.of_drew p0, cell_later hL.of_drew p1, c0, c1⟩
      clear hS hB B7 CI7 BWr GBr BW5 hRe hz56 hz66 k7
      generalize cs[fa] = ya at *
      generalize cs[ft] = yt at *
      refine wp_region_lat [.val (.slice (some ⟨cb, cof, none⟩) cs.length cc), .val (.pointer (some ⟨X, 0, none⟩)), .val (.int .i64 (fa : Int)), .val (.pointer (some ⟨cb, cof + fa, none⟩)), .val (.int .i64 ya), .val (.slice (some ⟨cb, cof, none⟩) cs.length cc), .val (.pointer (some ⟨X, 1, none⟩)), .val (.int .i64 (ft : Int)), .val (.pointer (some ⟨cb, cof + ft, none⟩)), .val (.int .i64 yt), .val (.bool (ya == yt))] [] (by kernel_rfl) (by kernel_rfl) rfl ?kept ?walk
      case kept => exact trivial
      case walk =>
        refine wpFacts_val (by rfl) (fun w1 hL hd K hK => ?_) ?_
        · go_simp
          exact hK _ (Lat.refl _)
        refine wpFacts_norm (by simp only [Act.put, List.setIfInBounds_toArray, List.set_cons_zero, List.set_cons_succ]; rfl) (by simp only [List.nil_append]; rfl) ?_
        refine wpFacts_val (by rfl) (fun w1 hL hd K hK => ?_) ?_
        · go_simp
          exact hK _ (Lat.refl _)
        refine wpFacts_norm (by simp only [Act.put, List.setIfInBounds_toArray, List.set_cons_zero, List.set_cons_succ]; rfl) (by simp only [List.cons_append, List.nil_append]; rfl) ?_
        refine wpFacts_val (by rfl) (fun w1 hL hd K hK => ?_) ?_
        · obtain ⟨d0, d1, d2, d3⟩ := HC.out w1 hL
          go_simp
          exact hK _ (Lat.refl _)
        refine wpFacts_norm (by simp only [Act.put, List.setIfInBounds_toArray, List.set_cons_zero, List.set_cons_succ]; rfl) (by simp only [List.cons_append, List.nil_append]; rfl) ?_
        refine wpFacts_val (by rfl) (fun w1 hL hd K hK => ?_) ?_
        · go_simp
          exact hK _ (Lat.refl _)
        refine wpFacts_norm (by simp only [Act.put, List.setIfInBounds_toArray, List.set_cons_zero, List.set_cons_succ]; rfl) (by simp only [List.cons_append, List.nil_append]; rfl) ?_
        refine wpFacts_val (by rfl) (fun w1 hL hd K hK => ?_) ?_
        · obtain ⟨d0, d1, d2, d3⟩ := HC.out w1 hL
          go_simp
          exact hK _ (Lat.refl _)
        refine wpFacts_norm (by simp only [Act.put, List.setIfInBounds_toArray, List.set_cons_zero, List.set_cons_succ]; rfl) (by simp only [List.cons_append, List.nil_append]; rfl) ?_
        refine wpFacts_val (by rfl) (fun w1 hL hd K hK => ?_) ?_
        · go_simp
          exact hK _ (Lat.refl _)
        refine wpFacts_norm (by simp only [Act.put, List.setIfInBounds_toArray, List.set_cons_zero, List.set_cons_succ]; rfl) (by simp only [List.cons_append, List.nil_append]; rfl) ?_
        refine wpFacts_val (by rfl) (fun w1 hL hd K hK => ?_) ?_
        · go_simp
          exact hK _ (Lat.refl _)
        refine wpFacts_norm (by simp only [Act.put, List.setIfInBounds_toArray, List.set_cons_zero, List.set_cons_succ]; rfl) (by simp only [List.cons_append, List.nil_append]; rfl) ?_
        refine wpFacts_val (by rfl) (fun w1 hL hd K hK => ?_) ?_
        · obtain ⟨d0, d1, d2, d3⟩ := HC.out w1 hL
          go_simp
          exact hK _ (Lat.refl _)
        refine wpFacts_norm (by simp only [Act.put, List.setIfInBounds_toArray, List.set_cons_zero, List.set_cons_succ]; rfl) (by simp only [List.cons_append, List.nil_append]; rfl) ?_
        refine wpFacts_val (by rfl) (fun w1 hL hd K hK => ?_) ?_
        · go_simp
          exact hK _ (Lat.refl _)
        refine wpFacts_norm (by simp only [Act.put, List.setIfInBounds_toArray, List.set_cons_zero, List.set_cons_succ]; rfl) (by simp only [List.cons_append, List.nil_append]; rfl) ?_
        refine wpFacts_val (by rfl) (fun w1 hL hd K hK => ?_) ?_
        · obtain ⟨d0, d1, d2, d3⟩ := HC.out w1 hL
          go_simp
          exact hK _ (Lat.refl _)
        refine wpFacts_norm (by simp only [Act.put, List.setIfInBounds_toArray, List.set_cons_zero, List.set_cons_succ]; rfl) (by simp only [List.cons_append, List.nil_append]; rfl) ?_
        refine wpFacts_val (by rfl) (fun w1 hL hd K hK => ?_) ?_
        · go_simp
          exact hK _ (Lat.refl _)
        refine wpFacts_norm (by simp only [Act.put, List.setIfInBounds_toArray, List.set_cons_zero, List.set_cons_succ]; rfl) (by simp only [List.cons_append, List.nil_append]; rfl) ?_
        intro wz hLz haz
        clear haz HC
        have hSz : Hid (OwnSpots w2.heap.size wz (.slice xo ((l.take m).filter pin).length xc) ((l.take m).filter pin)) := hS7.out.below hLz.of_drew
        have hBz : Hid (Below w2.heap.size w2 wz) := hB7.out.trans (Below.mono hLz.of_drew hB7.out.size)
        have k5z : Hid (wz.heap[R9]? = some (.cells #[.int .i64 (r : Int), .int .i64 (k : Int)] 48 (0, 0))) := (hLz.of_drew.block _ (Array.getElem?_eq_some_iff.1 k57.out).1).trans k57.out
        clear hS7 hB7 k57 hLz
        cases hyy : (ya == yt)
        · have hE := FN.out hyy
          have hS2 : Hid (OwnSpots w2.heap.size wz (.slice xo ((l.take (m + 1)).filter pin).length xc) ((l.take (m + 1)).filter pin)) := by
            show OwnSpots _ _ _ _
            rw [hE]; exact hSz.out
          have hLL : ((l.take m).filter pin).length = ((l.take (m + 1)).filter pin).length := by rw [hE]
          rw [hLL]
          clear hSz FY FN hE hLL hyy
          go_wp2_with fail
          go_roundw
          case rel => exact ⟨m + 1, xo, xc, by omega, by go_num, rfl, hS2, hBz⟩
          case measure => simp [intOf]; omega
        · have HE : Hid _ := FY.out hyy
          obtain ⟨p0, p1, _⟩ := cells_two_z k5z.out
          have hpz := (Array.getElem?_eq_some_iff.1 k5z.out).1
          have hb2 : Hid (Below wz.heap.size wz (wz.alloc (Obj.cells #[.int .i64 (r : Int), .int .i64 (k : Int)] 48))) := (Below.refl _ wz).alloc (Nat.le_refl _) _
          generalize hcu : (l.take m).filter pin = cur at *
          have HCU : Hid ((l.take m).filter pin = cur) := hcu
          clear hcu
          have HO2 : Hid (OwnSpots w2.heap.size (wz.alloc (Obj.cells #[.int .i64 (r : Int), .int .i64 (k : Int)] 48)) (.slice xo cur.length xc) cur) := hSz.out.below hb2.out
          have HB3 : Hid (Below w2.heap.size w2 (wz.alloc (Obj.cells #[.int .i64 (r : Int), .int .i64 (k : Int)] 48))) := hBz.out.trans (hb2.out.mono hBz.out.size)
          have hbase := HB3.out.size
          clear hSz hBz FY FN hyy hb2
          go_wp2_with (at_builtin; refine wpList_append_spot rfl _ _ rfl w2.heap.size _ cur rfl HO2.out wz.heap.size 1 ((r : Int), (k : Int)) rfl (by simp [go_sem]) (by simp [go_sem]) (by omega) hbase ?_; intro ga cap w8 ho8 hg8)
          have HB8 : Hid (Below w2.heap.size w2 w8) := HB3.out.grown hg8 hbase (fun q hq => (HO2.out.lt q hq).1)
          have HS8 : Hid (OwnSpots w2.heap.size w8 (.slice (some ⟨ga, 0, none⟩) ((l.take (m + 1)).filter pin).length cap) ((l.take (m + 1)).filter pin)) := by
            show OwnSpots _ _ _ _
            rw [HE.out, List.length_append]; exact ho8
          have hLL : cur.length + 1 = ((l.take (m + 1)).filter pin).length := by rw [HE.out, List.length_append]; rfl
          rw [hLL]
          clear ho8 hg8 HO2 HB3 hLL p0 p1 hpz
          go_roundw
          case rel => exact ⟨m + 1, _, _, by omega, by go_num, rfl, HS8, HB8⟩
          case measure => simp [intOf]; omega
    · obtain rfl : m = l.length := by omega
      have hmi : ¬ (l.length : Int) < (l.length : Int) := by omega
      have HF : Hid (OwnSpots w.heap.size wr (.slice xo (l.filter pin).length xc) inn) := by
        show OwnSpots _ _ _ _
        rw [R.out]
        have := ownsRow_from hS.out HB2.out.size
        rw [List.take_length] at this
        exact this
      have HBf : Hid (Below w.heap.size w wr) := HB2.out.trans (hB.out.mono HB2.out.size)
      clear hS hB
      go_wp2_with fail
      go_ret
      exact ⟨_, rfl, HF, HBf⟩
end Go.Proofs.Ytdocbgfpnaiijaa
