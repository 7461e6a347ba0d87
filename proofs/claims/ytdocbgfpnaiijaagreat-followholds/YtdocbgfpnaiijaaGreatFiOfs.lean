/-
  Layer 8 (first): allAreSymbols, ofRow, Of, Sets.
-/
import Derived.Test.YtdocbgfpnaiijaaGreatFiSets
import Derived.Test.YtdocbgfpnaiijaaGreatSortLib
import Derived.Test.YtdocbgfpnaiijaaGreatFiMath2
import Derived.BigQuiet
namespace Go.Proofs.YtdocbgfpnaiijaaGreat
open Go.RowKit Go.Conc

set_option maxHeartbeats 800000 in
theorem noSym_any (T N n : Nat) (hn : T + N = n) (hb : n ≤ 4000) (ta na : Option Addr) (tc nc : Nat) (s : Int) (P : Nat) (w : World) (c0 : w.cell? ⟨P, 0, none⟩ = some (.slice ta T tc)) (c1 : w.cell? ⟨P, 1, none⟩ = some (.slice na N nc)) :
    Calls Tryz.prog 58 #[.int .i64 s, .pointer (some ⟨P, 0, none⟩)] w fun e w' => e = .returned (.bool (!decide (0 ≤ s ∧ s < n))) ∧ w' = w := by
  by_cases h0 : s < 0
  · have R : Hid (true = !decide (0 ≤ s ∧ s < (n : Int))) := by show _ = _; simp; omega
    have hd : decide (s < 0) = true := by simp [h0]
    clear h0
    go_enter Tryz.func58, Tryz.ntmps58
    go_wp2_with fail
    go_ret
    exact ⟨ret_bool R.out, rfl⟩
  · have hd : decide (s < 0) = false := by simp; omega
    have hw : IntKind.wrap .i64 ((T : Int) + (N : Int)) = (T : Int) + (N : Int) := by rw [IntKind.wrap_i64]; omega
    by_cases h1 : (T : Int) + (N : Int) ≤ s
    · have hd1 : decide ((T : Int) + (N : Int) ≤ s) = true := decide_eq_true h1
      have R : Hid (true = !decide (0 ≤ s ∧ s < (n : Int))) := by show _ = _; simp; omega
      clear h0 h1
      go_enter Tryz.func58, Tryz.ntmps58
      go_wp2_with fail
      go_ret
      exact ⟨ret_bool R.out, rfl⟩
    · have hd1 : decide ((T : Int) + (N : Int) ≤ s) = false := decide_eq_false h1
      have R : Hid (false = !decide (0 ≤ s ∧ s < (n : Int))) := by
        show _ = _
        have : decide (0 ≤ s ∧ s < (n : Int)) = true := decide_eq_true (by omega)
        rw [this]; rfl
      clear h0 h1
      go_enter Tryz.func58, Tryz.ntmps58
      go_wp2_with fail
      go_ret
      exact ⟨ret_bool R.out, rfl⟩

set_option maxHeartbeats 1600000 in
theorem indexNoSym_any (T N n : Nat) (hn : T + N = n) (hb : n ≤ 4000) (ta na : Option Addr) (tc nc : Nat) (xs : List Int) (hx : xs.length ≤ 4000) (ao : Option Addr) (c : Nat) (P : Nat) (w : World) (hxs : IntsAt w.heap.size w ao xs) (c0 : w.cell? ⟨P, 0, none⟩ = some (.slice ta T tc)) (c1 : w.cell? ⟨P, 1, none⟩ = some (.slice na N nc)) :
    Calls Tryz.prog 85 #[.slice ao xs.length c, .func (.func 58) #[] #[.pointer (some ⟨P, 0, none⟩)]] w fun e w' => ∃ z : Int, e = .returned (.int .i64 z) ∧ w' = w ∧ Hid ((!decide (0 ≤ z)) = Fi.syms n xs) := by
  have HC : Hid _ := hxs.get
  have CL : Hid (∀ s : Int, Calls Tryz.prog 58 #[.int .i64 s, .pointer (some ⟨P, 0, none⟩)] w fun e w' => e = .returned (.bool (!decide (0 ≤ s ∧ s < n))) ∧ w' = w) := fun s => noSym_any T N n hn hb ta na tc nc s P w c0 c1
  clear hxs c0 c1
  go_enter Tryz.func85, Tryz.ntmps85
  go_wp2_with fail
  go_loopw [8] (fun i wr => ∃ q : Nat, q ≤ xs.length ∧ i = .int .i64 q ∧ Hid (Fi.syms n xs = Fi.syms n (xs.drop q)) ∧ wr = w) (fun i _ => xs.length - (intOf i).toNat)
  case atStart => exact ⟨0, Nat.zero_le _, rfl, by show _ = _; rw [List.drop_zero], rfl⟩
  case round =>
    obtain ⟨q, hq, rfl, hE, rfl⟩ := hrel
    by_cases hlt : q < xs.length
    · obtain ⟨b, o, rfl, hb1, _, k0⟩ := HC.out q hlt
      have PE := hE.out
      rw [Fi.syms_drop n xs q hlt] at PE
      have C1 : Hid (Calls Tryz.prog 58 #[.int .i64 xs[q], .pointer (some ⟨P, 0, none⟩)] wr fun e w' => e = .returned (.bool (!decide (0 ≤ xs[q] ∧ xs[q] < n))) ∧ w' = wr) := CL.out xs[q]
      generalize xs[q] = x at *
      generalize hd : decide (0 ≤ x ∧ x < (n : Int)) = d at *
      cases d
      · have R : Hid ((!decide ((0 : Int) ≤ (q : Int))) = Fi.syms n xs) := by show _ = _; rw [PE]; simp
        clear PE hE hd
        go_wp2_with fail
        refine C1.out.mono ?_
        rintro e w1 ⟨rfl, rfl⟩
        simp only [Bool.not_false]
        go_wp2_with fail
        go_ret
        exact ⟨_, rfl, rfl, R⟩
      · have R : Hid (Fi.syms n xs = Fi.syms n (xs.drop (q + 1))) := by show _ = _; rw [PE]; simp
        clear PE hE hd
        go_wp2_with fail
        refine C1.out.mono ?_
        rintro e w1 ⟨rfl, rfl⟩
        simp only [Bool.not_true]
        go_wp2_with fail
        go_roundw
        case rel => exact ⟨q + 1, by omega, by go_num, R, trivial⟩
        case measure => simp [intOf]; omega
    · have R : Hid ((!decide ((0 : Int) ≤ -1)) = Fi.syms n xs) := by show _ = _; rw [hE.out, List.drop_of_length_le (by omega)]; rfl
      clear hE
      go_wp2_with fail
      go_ret
      exact ⟨_, rfl, rfl, R⟩

set_option maxHeartbeats 800000 in
theorem allSyms_is (r : Bool) (g : Gr.Gm) (A : GA) (n : Nat) (hn : g.terms.length + g.names.length = n) (hb : n ≤ 4000) (xs : List Int) (hx : xs.length ≤ 4000) (ao : Option Addr) (c : Nat) (w : World) (hxs : IntsAt w.heap.size w ao xs) (hr : Fi.syms n xs = r) :
    Calls Tryz.prog 33 #[.agg (gmCells g A), .slice ao xs.length c] w fun e w' => e = .returned (.bool r) ∧ Below w.heap.size w w' := by
  obtain ⟨ta, tc, na, nc, ra, rac⟩ := A
  simp only [gmCells]
  have hmf : ∀ (fn : Fn) (first cap : Array Value) (w : World), (Instr.makeFunc fn first cap).run Tryz.prog w = .ok (.func fn first cap) w := fun _ _ _ _ => rfl
  have hB : Hid (Below w.heap.size w (w.alloc (Obj.cells #[.slice ta g.terms.length tc, .slice na g.names.length nc, .slice ra g.rules.length rac] 25))) := (Below.refl _ w).alloc (Nat.le_refl _) _
  obtain ⟨g0, g1, _⟩ := cells_three_z (heap_alloc_new w (Obj.cells #[.slice ta g.terms.length tc, .slice na g.names.length nc, .slice ra g.rules.length rac] 25))
  have IX : Hid (∀ _ : Unit, _) := fun _ => indexNoSym_any g.terms.length g.names.length n hn hb ta na tc nc xs hx ao c w.heap.size (w.alloc (Obj.cells #[.slice ta g.terms.length tc, .slice na g.names.length nc, .slice ra g.rules.length rac] 25)) (hxs.later hB.out).size g0 g1
  have HR : Hid _ := hr
  clear hxs hr g0 g1
  have CF : Hid (∀ W, Calls Tryz.prog 85 #[.slice ao xs.length c, .func (.func 58) #[] #[.pointer (some ⟨w.heap.size, 0, none⟩)]] W (fun e w' => ∃ z : Int, e = .returned (.int .i64 z) ∧ w' = W ∧ Hid ((!decide (0 ≤ z)) = Fi.syms n xs)) →
      Calls Tryz.prog 57 #[.slice ao xs.length c, .func (.func 58) #[] #[.pointer (some ⟨w.heap.size, 0, none⟩)]] W (fun e w' => e = .returned (.bool (!r)) ∧ w' = W)) := by
    intro W hW
    have HW : Hid (∀ _ : Unit, _) := fun _ => hW
    clear hW
    go_enter Tryz.func57, Tryz.ntmps57
    go_wp2_with (go_at_call 85; refine (HW.out ()).mono ?_; rintro e w1 ⟨z, rfl, rfl, hz⟩)
    go_ret
    exact ⟨ret_bool (by rw [← HR.out, ← hz.out]; simp), rfl⟩
  go_enter Tryz.func33, Tryz.ntmps33
  go_wp2_with (go_at_call 57; refine (CF.out _ (IX.out ())).mono ?_; rintro e w1 ⟨rfl, rfl⟩)
  go_ret
  exact ⟨ret_bool (by simp), hB.out⟩

set_option maxRecDepth 100000 in
set_option maxHeartbeats 3200000 in
theorem ofRow_any (nl : List Bool) (ss : List (List Bool)) (n T L S C nnc : Nat) (no ro : Option Addr) (Bs : List Nat) (l : List Int) (rc : Nat) (w : World) (hnl : BoolsAt w.heap.size w no nl) (hln : nl.length = n) (hR : RowsAt S T Bs ss w) (hss : ss.length = n) (hl : IntsAt w.heap.size w ro l) (hin : ∀ s ∈ l, 0 ≤ s ∧ s < n) (hc : l.length ≤ rc) (h4 : l.length ≤ 4000) (hT : T ≤ 40) (hn : n ≤ 80) :
    Calls Tryz.prog 35 #[.agg (fCells no nnc L S C n), .slice ro l.length rc] w fun e w' => ∃ ao c, e = .returned (.slice ao (Fi.rise (Fi.ofL nl ss T l)).length c) ∧ Hid (IntsAt w'.heap.size w' ao (Fi.rise (Fi.ofL nl ss T l))) ∧ Hid (Below w.heap.size w w') := by
  have HHD : Hid (∀ W : World, Below w.heap.size w W → Calls Tryz.prog 61 #[.agg (fCells no nnc L S C n), .slice ro l.length rc] W fun e w' => e = .returned (.slice ro (Fi.hn nl l) rc) ∧ Below W.heap.size W w') := fun W hW => heads_any nl l n L S C no ro nnc rc W (hnl.next hW) (hl.later hW).size hln hin hc h4
  have HR : Hid (RowsAt S T Bs ss w) := hR
  have HSH : Hid (Fi.Shape n T ss) := by have := hR.shape; rw [hss] at this; exact this
  have hmb := make_boolsN n (by omega)
  have HHL : Hid ((Fi.heads nl l).length = Fi.hn nl l) := Fi.heads_len _ _
  have HIN : Hid (∀ x ∈ Fi.heads nl l, 0 ≤ x ∧ x < n) := fun x hx => hin x (Fi.heads_mem hx)
  have KH : Hid (IntsAt w.heap.size w ro (Fi.heads nl l)) := by
    show IntsAt _ _ _ _
    rw [Fi.heads_take]
    unfold IntsAt
    rw [List.map_take]
    exact CellsAt.take hl _
  have hH4 : Fi.hn nl l ≤ 4000 := Nat.le_trans (Fi.hn_le _ _) h4
  have FIN : Hid (Lib.compact ((Fi.gather ss (Fi.marks n (Fi.heads nl l)) n).mergeSort fun x y => decide (x ≤ y)) = Fi.rise (Fi.ofL nl ss T l)) := Fi.ofL_is HSH.out HIN.out
  have hBl : Hid (Bs.length = n) := by show _ = _; rw [hR.len, hss]
  have HRS : Hid (∀ (k : Nat) (hk : k < Bs.length) (W : World), Below w.heap.size w W → Calls Tryz.prog 62 #[.slice (some ⟨Bs[k], 0, none⟩) T T] W fun e w' => ∃ v, e = .returned v ∧ Hid (OwnInts W.heap.size w' v (Fi.rise (ss.getD k []))) ∧ Hid (Below W.heap.size W w')) := fun k hk W hW => by
    have hkl : k < ss.length := by rw [← hR.len]; exact hk
    have hlk : (ss.getD k []).length = T := by
      have : ss.getD k [] = ss[k] := by simp [List.getD_eq_getElem?_getD, hkl]
      rw [this]; exact hR.each _ (List.getElem_mem hkl)
    have := rising_any (ss.getD k []) (some ⟨Bs[k], 0, none⟩) T W ((hR.later hW).bools k hk) (by omega)
    rw [hlk] at this; exact this
  have HGL : Hid (∀ (ms : List Bool) (k : Nat), k ≤ n → (Fi.gather ss ms k).length ≤ 3200 ∧ (Fi.rise (ss.getD k [])).length ≤ 40) := fun ms k hk => by
    refine ⟨Nat.le_trans (Fi.gather_len hR.each k) (Nat.le_trans (Nat.mul_le_mul (show k ≤ 80 by omega) hT) (by omega)), Nat.le_trans (Fi.riseTo_len _ _) ?_⟩
    rcases Nat.lt_or_ge k ss.length with q | q
    · have : ss.getD k [] = ss[k] := by simp [List.getD_eq_getElem?_getD, q]
      rw [this, hR.each _ (List.getElem_mem q)]; exact hT
    · have : ss.getD k [] = [] := by simp [List.getD_eq_getElem?_getD, q]
      rw [this]; simp
  clear hnl hR hl hin hss
  have hb0 : Hid (Below w.heap.size w (w.alloc (Obj.cells #[.slice no n nnc, .slice (some ⟨L, 0, none⟩) n n, .slice (some ⟨S, 0, none⟩) n n, .chan (some C)] 66))) := (Below.refl _ w).alloc (Nat.le_refl _) _
  simp only [fCells] at HHD ⊢
  go_enter Tryz.func35, Tryz.ntmps35
  go_upto_region 1 with fail
  have b0 : Hid ((w.alloc (Obj.cells #[.slice no n nnc, .slice (some ⟨L, 0, none⟩) n n, .slice (some ⟨S, 0, none⟩) n n, .chan (some C)] 66)).heap[w.heap.size]? = some (.cells #[.slice no n nnc, .slice (some ⟨L, 0, none⟩) n n, .slice (some ⟨S, 0, none⟩) n n, .chan (some C)] 66 (0, 0))) := heap_alloc_new w _
  generalize (w.alloc (Obj.cells #[.slice no n nnc, .slice (some ⟨L, 0, none⟩) n n, .slice (some ⟨S, 0, none⟩) n n, .chan (some C)] 66)) = W at *
  obtain ⟨⟨q0, q1, q2, q3⟩, _⟩ := cells_four_z b0.out
  have hz := (Array.getElem?_eq_some_iff.1 b0.out).1
  go_upto_region 2 with fail
  have hb2 : Hid (Below w.heap.size w (W.alloc (.cells (Array.replicate n (Value.bool false)) 4))) := hb0.out.alloc hb0.out.size _
  have b2 : Hid ((W.alloc (.cells (Array.replicate n (Value.bool false)) 4)).heap[w.heap.size]? = some (.cells #[.slice no n nnc, .slice (some ⟨L, 0, none⟩) n n, .slice (some ⟨S, 0, none⟩) n n, .chan (some C)] 66 (0, 0))) := (Below.heap_alloc _ _ _ hz).trans b0.out
  have m2 : Hid ((W.alloc (.cells (Array.replicate n (Value.bool false)) 4)).heap[W.heap.size]? = some (.cells (Array.replicate n (Value.bool false)) 4 (0, 0))) := heap_alloc_new W _
  have hIw : w.heap.size < W.heap.size := hz
  generalize (W.alloc (.cells (Array.replicate n (Value.bool false)) 4)) = W2 at *
  generalize W.heap.size = I at *
  clear q0 q1 q2 q3 b0 hb0 hz
  obtain ⟨⟨q0, q1, q2, q3⟩, _⟩ := cells_four_z b2.out
  have hz := (Array.getElem?_eq_some_iff.1 b2.out).1
  go_wp2_with (go_at_call 61; fail)
  refine Calls.mono (HHD.out W2 hb2.out) ?_
  rintro e w3 ⟨rfl, hb3⟩
  have HB3 : Hid (Below w.heap.size w w3) := hb2.out.trans (hb3.mono hb2.out.size)
  have b3 : Hid _ := (hb3.block _ hz).trans b2.out
  have m3 : Hid (w3.heap[I]? = some (.cells ((Fi.marks n ((Fi.heads nl l).take 0)).map Value.bool).toArray 4 (0, 0))) := by
    show _ = _
    rw [hb3.block _ (Array.getElem?_eq_some_iff.1 m2.out).1, m2.out]
    simp [Fi.marks]
  clear q0 q1 q2 q3 b2 m2 hb2 hb3 HHD hz
  generalize Fi.hn nl l = H at *
  generalize Fi.heads nl l = hs at *
  go_wp2_with fail
  go_loopw [19] (fun i wr => ∃ q : Nat, q ≤ H ∧ i = .int .i64 q ∧ Hid (wr.heap[I]? = some (.cells ((Fi.marks n (hs.take q)).map Value.bool).toArray 4 (0, 0))) ∧ Hid (ButL [I] w3 wr)) (fun i _ => H - (intOf i).toNat)
  case atStart => exact ⟨0, Nat.zero_le _, rfl, m3, ButL.refl _ _⟩
  case round =>
    obtain ⟨q, hq, rfl, hM, hbt⟩ := hrel
    clear m3
    by_cases hql : q < H
    · have hqs : q < hs.length := by rw [HHL.out]; exact hql
      have hBw : Hid (Below w.heap.size w wr) := HB3.out.trans (hbt.out.below (fun q hq => by rw [List.mem_singleton] at hq; omega) HB3.out.size)
      obtain ⟨xb, xof, rfl, _, _, x0⟩ := IntsAt.get (KH.out.later hBw.out) q hqs
      have hx := HIN.out _ (List.getElem_mem hqs)
      have ST : Hid _ := Fi.marks_step n hs q hqs
      have hml := Fi.marks_len n (hs.take q)
      generalize hs[q] = x at *
      obtain ⟨m, rfl⟩ : ∃ m : Nat, x = m := ⟨x.toNat, by omega⟩
      have hmn : m < n := by omega
      have hmi : (m : Int) < (n : Int) := by omega
      have f0 : wr.frozen? ⟨I, m, none⟩ = false := by simp [World.frozen?, hM.out]
      have c0 : wr.cell? ⟨I, m, none⟩ = some (.bool ((Fi.marks n (hs.take q))[m]'(by omega))) := by simp [World.cell?, hM.out, hml, hmn]
      have hIl := (Array.getElem?_eq_some_iff.1 hM.out).1
      have N1 : Hid ((wr.setCell ⟨I, m, none⟩ (.bool true)).heap[I]? = some (.cells ((Fi.marks n (hs.take (q + 1))).map Value.bool).toArray 4 (0, 0))) := by
        show _ = _
        rw [ST.out]
        simp [World.setCell, Array.getElem?_modify, hM.out, Nl.tell, List.map_set]
      have N2 : Hid (ButL [I] w3 (wr.setCell ⟨I, m, none⟩ (.bool true))) := hbt.out.setCell (List.mem_cons_self ..) _ _
      clear hM hbt ST hBw
      go_wp2_with fail
      go_roundw
      case rel => exact ⟨q + 1, by omega, by go_num, N1, N2⟩
      case measure => simp [intOf]; omega
    · obtain rfl : q = H := by omega
      have hfin : hs.take q = hs := List.take_of_length_le (by rw [HHL.out]; exact Nat.le_refl _)
      rw [hfin] at hM
      have hml := Fi.marks_len n hs
      generalize hms : Fi.marks n hs = ms at *
      have HB4 : Hid (Below w.heap.size w wr) := HB3.out.trans (hbt.out.below (fun q hq => by rw [List.mem_singleton] at hq; omega) HB3.out.size)
      have b4 : Hid _ := (hbt.out.block w.heap.size (Array.getElem?_eq_some_iff.1 b3.out).1 (by simp; omega)).trans b3.out
      clear hfin hbt b3 HB3 KH
      rename World => W4
      go_wp2_with fail
      have P0 : Hid (OwnInts W4.heap.size W4 (.slice none (Fi.gather ss ms 0).length 0) (Fi.gather ss ms 0)) := World.ownsRow_nil _ _ _ _
      go_loopw [8, 29] (fun l i wr => ∃ (k : Nat) (xo : Option Addr) (xc : Nat), k ≤ n ∧ i = .int .i64 k ∧ l = .slice xo (Fi.gather ss ms k).length xc ∧ Hid (OwnInts W4.heap.size wr (.slice xo (Fi.gather ss ms k).length xc) (Fi.gather ss ms k)) ∧ Hid (Below W4.heap.size W4 wr)) (fun _ i _ => n - (intOf i).toNat)
      case atStart => exact ⟨0, none, 0, Nat.zero_le _, rfl, rfl, P0, Below.refl _ _⟩
      case round =>
        obtain ⟨k, xo, xc, hk, rfl, rfl, hO, hbk⟩ := hrel
        clear P0
        have HBk : Hid (Below w.heap.size w wr) := HB4.out.trans (hbk.out.mono HB4.out.size)
        have m5 : wr.heap[I]? = _ := (hbk.out.block I (Array.getElem?_eq_some_iff.1 hM.out).1).trans hM.out
        have b5 : Hid _ := (hbk.out.block _ (Array.getElem?_eq_some_iff.1 b4.out).1).trans b4.out
        have hgl := HGL.out ms k hk
        by_cases hkl : k < n
        · have hki : (k : Int) < (n : Int) := by omega
          have c0 : wr.cell? ⟨I, k, none⟩ = some (.bool (ms[k]'(by omega))) := by simp [World.cell?, m5, hml, hkl]
          have hmk : ms.getD k false = ms[k]'(by omega) := by simp [List.getD_eq_getElem?_getD, hml, hkl]
          have ST : Fi.gather ss ms (k + 1) = Fi.gather ss ms k ++ (if ms.getD k false = true then Fi.rise (ss.getD k []) else []) := rfl
          rw [hmk] at ST
          clear hmk m5
          generalize ms[k]'(by omega) = y at *
          cases y
          · have R : Hid (Fi.gather ss ms (k + 1) = Fi.gather ss ms k) := by show _ = _; rw [ST]; simp
            clear ST
            go_wp2_with fail
            go_roundw
            case rel => exact ⟨k + 1, xo, xc, by omega, by go_num, by rw [R.out], by show OwnInts _ _ _ _; rw [R.out]; exact hO.out, hbk⟩
            case measure => simp [intOf]; omega
          · have R : Hid (Fi.gather ss ms (k + 1) = Fi.gather ss ms k ++ Fi.rise (ss.getD k [])) := by show _ = _; rw [ST]; simp
            clear ST
            have hkB : k < Bs.length := by rw [hBl.out]; exact hkl
            obtain ⟨⟨q0, q1, q2, q3⟩, _⟩ := cells_four_z b5.out
            have hz5 := (Array.getElem?_eq_some_iff.1 b5.out).1
            have cS := (HR.out.later HBk.out).head k hkB
            have hSl := (HR.out.later HBk.out).lt.1
            have HR1 : Hid _ := HRS.out k hkB wr HBk.out
            generalize Fi.rise (ss.getD k []) = rs at *
            generalize hgs : Fi.gather ss ms k = gs at *
            generalize Bs[k] = B at *
            go_wp2_with (go_at_call 62; fail)
            refine Calls.mono HR1.out ?_
            rintro e w6 ⟨v, rfl, hov, hb6⟩
            obtain ⟨vo, vc, rfl, hrd, _⟩ := OwnInts.read hov.out
            have HRD : Hid (IntsAt w6.heap.size w6 vo rs) := IntsAt.size hrd
            have HO6 : Hid (OwnInts W4.heap.size w6 (.slice xo gs.length xc) gs) := ownsRow_below hO.out hb6.out
            have HB6 : Hid (Below W4.heap.size W4 w6) := hbk.out.trans (hb6.out.mono hbk.out.size)
            have hbase := HB6.out.size
            clear hrd hov hO hbk hb6 HR1 cS hgs q0 q1 q2 q3 c0
            go_wp2_with (at_builtin; refine wpList_append_ints rfl _ _ rfl W4.heap.size _ gs rfl HO6.out vo vc rs rfl HRD.out (by omega) hbase ?_; intro yo yc w7 ho7 hg7)
            have HB7 : Hid (Below W4.heap.size W4 w7) := HB6.out.grown hg7 hbase (fun k hk => (HO6.out.lt k hk).1)
            have HO7 : Hid (OwnInts W4.heap.size w7 (.slice yo (Fi.gather ss ms (k + 1)).length yc) (Fi.gather ss ms (k + 1))) := by
              show OwnInts _ _ _ _
              rw [R.out]; exact ho7
            have hlen2 : gs.length + rs.length = (Fi.gather ss ms (k + 1)).length := by rw [R.out, List.length_append]
            rw [hlen2]
            clear ho7 hg7 HB6 HO6 HRD
            go_roundw
            case rel => exact ⟨k + 1, _, _, by omega, by go_num, rfl, HO7, HB7⟩
            case measure => simp [intOf]; omega
        · obtain rfl : k = n := by omega
          have hki : ¬ (k : Int) < (k : Int) := by omega
          generalize Fi.gather ss ms k = gs at *
          have HSO : Hid _ := sort_any gs W4.heap.size xo xc wr hO.out (by omega)
          have hcap : gs.length ≤ xc := by
            obtain ⟨_, _, e, _, h2, _⟩ := OwnInts.read hO.out
            simp only [Value.slice.injEq] at e
            omega
          have hlt := hO.out.lt
          have HW4 : Hid (∀ q, (Value.slice xo gs.length xc).ownBlock = some q → W4.heap.size ≤ q) := fun q hq => (hlt q hq).1
          have HGO : Hid (gs = [] ∨ ∃ g, xo = some ⟨g, 0, none⟩) := by
            rcases hO.out.2 with ⟨_, h0⟩ | ⟨g, cap, cur, e, _⟩
            · exact .inl (List.eq_nil_of_length_eq_zero h0)
            · simp only [Value.slice.injEq] at e
              exact .inr ⟨g, e.1⟩
          clear m5 hO hlt
          go_wp2_with (go_at_call 63; fail)
          refine Calls.mono HSO.out ?_
          rintro e w8 ⟨rfl, s1, s2, s3⟩
          have hsl : (gs.mergeSort fun x y => decide (x ≤ y)).length = gs.length := List.length_mergeSort _
          have HCO : Hid _ := compact_any (gs.mergeSort fun x y => decide (x ≤ y)) xo xc w8 (by rw [hsl]; exact hcap) (by rw [hsl]; omega) (by
            rcases HGO.out with e | ⟨g, e⟩
            · left; exact List.eq_nil_of_length_eq_zero (by rw [hsl, e]; rfl)
            · right; subst e; exact ⟨g, rfl, s3 g rfl⟩)
          have B8 : Hid (Below w.heap.size w w8) := by
            cases ho : (Value.slice xo gs.length xc).ownBlock with
            | none => rw [s2 ho]; exact HBk.out
            | some q => exact HBk.out.trans ((s1 q ho).below (fun z hz => by rw [List.mem_singleton] at hz; have := HW4.out q ho; have := HB4.out.size; omega) HBk.out.size)
          have HF8 : Hid _ := FIN.out
          rw [hsl] at HCO
          generalize (gs.mergeSort fun x y => decide (x ≤ y)) = ys at *
          clear s1 s2 s3 HSO hsl
          go_wp2_with (go_at_call 64; refine Calls.mono HCO.out ?_; rintro e w9 ⟨rfl, t1, t2, t3⟩)
          go_ret
          rw [HF8.out] at t1
          refine ⟨xo, xc, by rw [← HF8.out]; rfl, t1, ?_⟩
          show Below _ _ _
          cases ho : (Value.slice xo gs.length xc).ownBlock with
          | none => rw [t3 ho]; exact B8.out
          | some q => exact B8.out.trans ((t2 q ho).below (fun z hz => by rw [List.mem_singleton] at hz; have := HW4.out q ho; have := HB4.out.size; omega) B8.out.size)
end Go.Proofs.YtdocbgfpnaiijaaGreat
