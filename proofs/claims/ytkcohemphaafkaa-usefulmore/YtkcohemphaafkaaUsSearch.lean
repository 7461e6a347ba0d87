/-
  Layer 7 (useful): the search's own functions: allAre, find, findLeft, findRight, symbols, begun, all.
-/
import Derived.Test.YtkcohemphaafkaaUsMath
import Derived.Test.YtkcohemphaafkaaSchLib
import Derived.Test.YtkcohemphaafkaaGrQuiet
import Derived.BigQuiet
namespace Go.Proofs.Ytkcohemphaafkaa
open Go.RowKit Go.Conc

set_option maxHeartbeats 800000 in
theorem notAt7_any (bs : List Bool) (io : Option Addr) (ic : Nat) (s : Int) (P : Nat) (w : World) (h : BoolsAt w.heap.size w io bs) (c0 : w.cell? ⟨P, 0, none⟩ = some (.slice io bs.length ic)) (hs : 0 ≤ s ∧ s < bs.length) :
    Calls Try.prog 69 #[.int .i64 s, .pointer (some ⟨P, 0, none⟩)] w fun e w' => e = .returned (.bool (!Nl.isAt bs s)) ∧ w' = w := by
  have HC : Hid _ := h.get
  clear h
  obtain ⟨k, rfl⟩ : ∃ k : Nat, s = k := ⟨s.toNat, by omega⟩
  have hk : k < bs.length := by omega
  obtain ⟨b, o, rfl, _, _, c1⟩ := HC.out k hk
  have R : Hid ((!bs[k]) = !Nl.isAt bs (k : Int)) := by show _ = _; rw [Nl.isAt_get (by omega) (by simpa using hk)]; simp
  generalize bs[k] = x at *
  clear hs
  go_enter Try.func69, Try.ntmps69
  go_wp2_with fail
  go_ret
  exact ⟨ret_bool R.out, rfl⟩

set_option maxHeartbeats 1600000 in
theorem indexNot7_any (bs : List Bool) (xs : List Int) (hx : xs.length ≤ 4000) (hin : ∀ x ∈ xs, 0 ≤ x ∧ x < bs.length) (io ao : Option Addr) (ic c : Nat) (P : Nat) (w : World) (h : BoolsAt w.heap.size w io bs) (hxs : IntsAt w.heap.size w ao xs) (c0 : w.cell? ⟨P, 0, none⟩ = some (.slice io bs.length ic)) :
    Calls Try.prog 84 #[.slice ao xs.length c, .func (.func 69) #[] #[.pointer (some ⟨P, 0, none⟩)]] w fun e w' => ∃ z : Int, e = .returned (.int .i64 z) ∧ w' = w ∧ Hid ((!decide (0 ≤ z)) = Nl.allIn bs xs) := by
  have HC : Hid _ := hxs.get
  have CL : Hid (∀ s : Int, s ∈ xs → Calls Try.prog 69 #[.int .i64 s, .pointer (some ⟨P, 0, none⟩)] w fun e w' => e = .returned (.bool (!Nl.isAt bs s)) ∧ w' = w) := fun s hs => notAt7_any bs io ic s P w h c0 (hin s hs)
  clear h hxs c0 hin
  go_enter Try.func84, Try.ntmps84
  go_wp2_with fail
  go_loopw [8] (fun i wr => ∃ q : Nat, q ≤ xs.length ∧ i = .int .i64 q ∧ Hid (Nl.allIn bs xs = Nl.allIn bs (xs.drop q)) ∧ wr = w) (fun i _ => xs.length - (intOf i).toNat)
  case atStart => exact ⟨0, Nat.zero_le _, rfl, by show _ = _; rw [List.drop_zero], rfl⟩
  case round =>
    obtain ⟨q, hq, rfl, hE, rfl⟩ := hrel
    by_cases hlt : q < xs.length
    · obtain ⟨b, o, rfl, hb1, _, k0⟩ := HC.out q hlt
      have PE := hE.out
      rw [allIn_drop bs xs q hlt] at PE
      have C1 : Hid (Calls Try.prog 69 #[.int .i64 xs[q], .pointer (some ⟨P, 0, none⟩)] wr fun e w' => e = .returned (.bool (!Nl.isAt bs xs[q])) ∧ w' = wr) := CL.out xs[q] (List.getElem_mem hlt)
      generalize xs[q] = x at *
      cases e : Nl.isAt bs x
      · have R : Hid ((!decide ((0 : Int) ≤ (q : Int))) = Nl.allIn bs xs) := by show _ = _; rw [PE, e]; simp
        rw [e] at C1
        clear PE hE
        go_wp2_with fail
        refine C1.out.mono ?_
        rintro e w1 ⟨rfl, rfl⟩
        simp only [Bool.not_false]
        go_wp2_with fail
        go_ret
        exact ⟨_, rfl, rfl, R⟩
      · have R : Hid (Nl.allIn bs xs = Nl.allIn bs (xs.drop (q + 1))) := by show _ = _; rw [PE, e]; simp
        rw [e] at C1
        clear PE hE
        go_wp2_with fail
        refine C1.out.mono ?_
        rintro e w1 ⟨rfl, rfl⟩
        simp only [Bool.not_true]
        go_wp2_with fail
        go_roundw
        case rel => exact ⟨q + 1, by omega, by go_num, R, trivial⟩
        case measure => simp [intOf]; omega
    · have R : Hid ((!decide ((0 : Int) ≤ -1)) = Nl.allIn bs xs) := by show _ = _; rw [hE.out, List.drop_of_length_le (by omega)]; rfl
      clear hE
      go_wp2_with fail
      go_ret
      exact ⟨_, rfl, rfl, R⟩

set_option maxHeartbeats 800000 in
theorem allAre7_is (r : Bool) (bs : List Bool) (xs : List Int) (hx : xs.length ≤ 4000) (hin : ∀ x ∈ xs, 0 ≤ x ∧ x < bs.length) (io ao : Option Addr) (ic c : Nat) (w : World) (h : BoolsAt w.heap.size w io bs) (hxs : IntsAt w.heap.size w ao xs) (hr : Nl.allIn bs xs = r) :
    Calls Try.prog 49 #[.slice io bs.length ic, .slice ao xs.length c] w fun e w' => e = .returned (.bool r) ∧ Below w.heap.size w w' := by
  have hmf : ∀ (fn : Fn) (first cap : Array Value) (w : World), (Instr.makeFunc fn first cap).run Try.prog w = .ok (.func fn first cap) w := fun _ _ _ _ => rfl
  have hb : Hid (Below w.heap.size w (w.alloc (Obj.cells #[Value.slice io bs.length ic] 30))) := (Below.refl _ w).alloc (Nat.le_refl _) _
  have IX : Hid (∀ _ : Unit, _) := fun _ => indexNot7_any bs xs hx hin io ao ic c w.heap.size (w.alloc (Obj.cells #[Value.slice io bs.length ic] 30)) (h.later hb.out).size (hxs.later hb.out).size (by simp [go_sem])
  have HR : Hid _ := hr
  clear h hxs hr hin
  have CF : Hid (∀ W, Calls Try.prog 84 #[.slice ao xs.length c, .func (.func 69) #[] #[.pointer (some ⟨w.heap.size, 0, none⟩)]] W (fun e w' => ∃ z : Int, e = .returned (.int .i64 z) ∧ w' = W ∧ Hid ((!decide (0 ≤ z)) = Nl.allIn bs xs)) →
      Calls Try.prog 68 #[.slice ao xs.length c, .func (.func 69) #[] #[.pointer (some ⟨w.heap.size, 0, none⟩)]] W (fun e w' => e = .returned (.bool (!r)) ∧ w' = W)) := by
    intro W hW
    have HW : Hid (∀ _ : Unit, _) := fun _ => hW
    clear hW
    go_enter Try.func68, Try.ntmps68
    go_wp2_with (go_at_call 84; refine (HW.out ()).mono ?_; rintro e w1 ⟨z, rfl, rfl, hz⟩)
    go_ret
    exact ⟨ret_bool (by rw [← HR.out, ← hz.out]; simp), rfl⟩
  go_enter Try.func49, Try.ntmps49
  go_wp2_with (go_at_call 68; refine (CF.out _ (IX.out ())).mono ?_; rintro e w1 ⟨rfl, rfl⟩)
  go_ret
  exact ⟨ret_bool (by simp), hb.out⟩

set_option maxRecDepth 100000 in
set_option maxHeartbeats 1600000 in
theorem find_any (st : Nl.St) (n I C : Nat) (x : Int) (w : World) (hS : SAt I C n st w) (hm : Us.Rm n st) (hx : 0 ≤ x ∧ x < n) :
    Calls Try.prog 24 #[.agg #[.slice (some ⟨I, 0, none⟩) n n, .chan (some C)], .int .i64 x] w fun e w' => e = .returned (.tuple #[]) ∧ Hid (But I C w w') ∧ Hid (SAt I C n (Us.find st x) w') := by
  obtain ⟨hlen, hfew⟩ := hm
  have hm : Us.Rm n st := ⟨hlen, hfew⟩
  subst hlen
  obtain ⟨k, rfl⟩ : ∃ k : Nat, x = k := ⟨x.toNat, by omega⟩
  have hk : k < st.is.length := by omega
  have hI := hS.lt.1
  have hC := hS.lt.2
  obtain ⟨c0, f0⟩ := hS.cell k hk
  have HS : Hid (SAt I C st.is.length st w) := hS
  have e0 : Nl.isAt st.is (k : Int) = st.is[k] := by rw [Nl.isAt_get (by omega) (by simpa using hk)]; simp
  have HM : Hid _ := (hm.find hx).2
  clear hS hm hx hfew
  have hB : Hid (Below w.heap.size w (w.alloc (Obj.cells #[.slice (some ⟨I, 0, none⟩) st.is.length st.is.length, .chan (some C)] 51))) := (Below.refl _ w).alloc (Nat.le_refl _) _
  have b0 : Hid ((w.alloc (Obj.cells #[.slice (some ⟨I, 0, none⟩) st.is.length st.is.length, .chan (some C)] 51)).heap[w.heap.size]? = some (.cells #[.slice (some ⟨I, 0, none⟩) st.is.length st.is.length, .chan (some C)] 51 (0, 0))) := heap_alloc_new w _
  cases hb : st.is[k]
  · rw [hb] at c0 e0
    have R : Hid (Us.find st (k : Int) = ⟨Nl.tell st.is (k : Int), st.q ++ [(k : Int)]⟩) := by show _ = _; unfold Us.find; rw [if_pos e0]
    have hrm := HM.out e0
    have S1 : Hid _ := HS.out.later hB.out
    clear HM
    go_enter Try.func24, Try.ntmps24
    go_upto_region 1 with fail
    generalize (w.alloc (Obj.cells #[.slice (some ⟨I, 0, none⟩) st.is.length st.is.length, .chan (some C)] 51)) = W at *
    obtain ⟨q0, q1, _⟩ := cells_two_z b0.out
    have hz := (Array.getElem?_eq_some_iff.1 b0.out).1
    clear c0 f0
    obtain ⟨c0, f0⟩ := S1.out.cell k hk
    rw [hb] at c0
    have n0 : I ≠ w.heap.size := by omega
    go_upto_region 3 with fail
    refine wp_region_last (pre := [_, _, _]) ?_
    simp only [List.cons_append, List.nil_append, List.length_cons, List.length_nil, Nat.zero_add, Nat.reduceAdd]
    go_wp2_with fail
    obtain ⟨sn, rn, hch⟩ := (S1.out.tell k).ch
    have S2 : Hid _ := S1.out.tell k
    refine inReg_send (c := C) (cap := st.is.length) (buf := (st.q.map (Value.int .i64)).toArray) (s := sn) (r := rn) (v := .int .i64 (k : Int)) (z := .tuple #[]) (tm := false) rfl rfl (by simp [execOp, scase, Act.eval]) hch (by simpa using hrm) ?_
    refine inReg_ops ?_
    simp only [wpOps]
    go_end0
    refine ⟨rfl, ((But.of hB.out).setCell _ _).setChan _ _ _ _ _ _, ?_⟩
    show SAt _ _ _ _ _
    rw [R.out]
    exact S2.out.send _ _ _
  · rw [hb] at c0 e0
    have R : Hid (Us.find st (k : Int) = st) := by show _ = _; unfold Us.find; rw [if_neg (by simp [e0])]
    clear HM b0
    go_enter Try.func24, Try.ntmps24
    go_wp2_with fail
    go_end0
    refine ⟨rfl, But.of hB.out, ?_⟩
    show SAt _ _ _ _ _
    rw [R.out]; exact HS.out.later hB.out

set_option maxRecDepth 100000 in
set_option maxHeartbeats 1600000 in
theorem findLeft_any (st : Nl.St) (n I C : Nat) (r : Gr.Rl) (ro : Option Addr) (rc : Nat) (w : World) (hS : SAt I C n st w) (hm : Us.Rm n st) (hr : IntsAt w.heap.size w ro r.2) (hl : r.2.length ≤ 4000) (h0 : 0 ≤ r.1 ∧ r.1 < n) (hin : ∀ x ∈ r.2, 0 ≤ x ∧ x < n) :
    Calls Try.prog 25 #[.agg #[.slice (some ⟨I, 0, none⟩) n n, .chan (some C)], .agg #[.int .i64 r.1, .slice ro r.2.length rc]] w fun e w' => e = .returned (.tuple #[]) ∧ Hid (But I C w w') ∧ Hid (SAt I C n (Nl.ask st r) w') := by
  obtain ⟨l, rs⟩ := r
  simp only at hl hr h0 hin ⊢
  have hlt := hS.lt
  have hne := hS.ne
  have hB : Hid (Below w.heap.size w ((w.alloc (Obj.cells #[.slice (some ⟨I, 0, none⟩) n n, .chan (some C)] 51)).alloc (Obj.cells #[.int .i64 l, .slice ro rs.length rc] 37))) := ((Below.refl _ w).alloc (Nat.le_refl _) _).alloc (by simp) _
  have b0 : Hid (((w.alloc (Obj.cells #[.slice (some ⟨I, 0, none⟩) n n, .chan (some C)] 51)).alloc (Obj.cells #[.int .i64 l, .slice ro rs.length rc] 37)).heap[w.heap.size]? = some (.cells #[.slice (some ⟨I, 0, none⟩) n n, .chan (some C)] 51 (0, 0))) := by
    show _ = _; rw [Below.heap_alloc _ _ _ (by simp)]; exact heap_alloc_new w _
  have b1 : Hid (((w.alloc (Obj.cells #[.slice (some ⟨I, 0, none⟩) n n, .chan (some C)] 51)).alloc (Obj.cells #[.int .i64 l, .slice ro rs.length rc] 37)).heap[w.heap.size + 1]? = some (.cells #[.int .i64 l, .slice ro rs.length rc] 37 (0, 0))) := by
    show _ = _
    have := heap_alloc_new (w.alloc (Obj.cells #[.slice (some ⟨I, 0, none⟩) n n, .chan (some C)] 51)) (Obj.cells #[.int .i64 l, .slice ro rs.length rc] 37)
    simpa using this
  have HC : Hid (∀ b : Bool, Nl.allIn st.is rs = b → ∀ W : World, Below w.heap.size w W → Calls Try.prog 49 #[.slice (some ⟨I, 0, none⟩) n n, .slice ro rs.length rc] W fun e w' => e = .returned (.bool b) ∧ Below W.heap.size W w') := fun b hb W hW => by
    have := allAre7_is b st.is rs hl (by rw [hm.len]; exact hin) _ _ n rc W (hS.bools.next hW) (hr.later hW).size hb
    rw [hm.len] at this; exact this
  have HF : Hid (∀ W : World, Below w.heap.size w W → Calls Try.prog 24 #[.agg #[.slice (some ⟨I, 0, none⟩) n n, .chan (some C)], .int .i64 l] W fun e w' => e = .returned (.tuple #[]) ∧ Hid (But I C W w') ∧ Hid (SAt I C n (Us.find st l) w')) := fun W hW => find_any st n I C l W (hS.later hW) hm h0
  have HS : Hid (SAt I C n st w) := hS
  clear hS hr hm h0 hin
  cases ha : Nl.allIn st.is rs
  · have HC1 : Hid _ := HC.out false ha
    have R : Hid (Nl.ask st (l, rs) = st) := Us.ask_no ha
    clear HC HF b0 b1
    go_enter Try.func25, Try.ntmps25
    go_wp2_with (go_at_call 49; refine Calls.mono (HC1.out _ hB.out) ?_; rintro e w1 ⟨rfl, hb1⟩)
    go_end0
    have hb2 := hB.out.trans (hb1.mono hB.out.size)
    refine ⟨rfl, But.of hb2, ?_⟩
    show SAt _ _ _ _ _
    rw [R.out]; exact HS.out.later hb2
  · have HC1 : Hid _ := HC.out true ha
    have R : Hid (Nl.ask st (l, rs) = Us.find st l) := Us.ask_find ha
    clear HC
    go_enter Try.func25, Try.ntmps25
    go_wp2_with (go_at_call 49; fail)
    generalize ((w.alloc (Obj.cells #[.slice (some ⟨I, 0, none⟩) n n, .chan (some C)] 51)).alloc (Obj.cells #[.int .i64 l, .slice ro rs.length rc] 37)) = W at *
    refine Calls.mono (HC1.out _ hB.out) ?_
    rintro e w1 ⟨rfl, hb1⟩
    have hb2 : Hid (Below w.heap.size w w1) := hB.out.trans (hb1.mono hB.out.size)
    have k0 : Hid _ := (hb1.block _ (Array.getElem?_eq_some_iff.1 b0.out).1).trans b0.out
    have k1 : Hid _ := (hb1.block _ (Array.getElem?_eq_some_iff.1 b1.out).1).trans b1.out
    obtain ⟨q0, q1, _⟩ := cells_two_z k0.out
    obtain ⟨q2, q3, _⟩ := cells_two_z k1.out
    have HF1 : Hid _ := HF.out w1 hb2.out
    clear HC1 hB b0 b1 hb1 HF
    go_wp2_with (go_at_call 24; refine Calls.mono HF1.out ?_; rintro e w2 ⟨rfl, hbt, hs2⟩)
    go_end0
    refine ⟨rfl, (But.of hb2.out).trans hbt.out, ?_⟩
    show SAt _ _ _ _ _
    rw [R.out]; exact hs2.out

set_option maxRecDepth 100000 in
set_option maxHeartbeats 1600000 in
theorem findRight_any (st : Nl.St) (n M I C : Nat) (r : Gr.Rl) (ro : Option Addr) (rc : Nat) (w : World) (hS : SAt I C n st w) (hm : Us.Rm n st) (hM : M ≤ I ∧ M ≤ C) (hr : IntsAt M w ro r.2) (hl : r.2.length ≤ 4000) (hin : ∀ x ∈ r.2, 0 ≤ x ∧ x < n) :
    Calls Try.prog 48 #[.agg #[.slice (some ⟨I, 0, none⟩) n n, .chan (some C)], .agg #[.int .i64 r.1, .slice ro r.2.length rc]] w fun e w' => e = .returned (.tuple #[]) ∧ Hid (But I C w w') ∧ Hid (SAt I C n (r.2.foldl Us.find st) w') := by
  obtain ⟨l, rs⟩ := r
  simp only at hl hr hin ⊢
  have hlt := hS.lt
  have hMw : M ≤ w.heap.size := by omega
  have hB : Hid (Below w.heap.size w ((w.alloc (Obj.cells #[.slice (some ⟨I, 0, none⟩) n n, .chan (some C)] 51)).alloc (Obj.cells #[.int .i64 l, .slice ro rs.length rc] 37))) := ((Below.refl _ w).alloc (Nat.le_refl _) _).alloc (by simp) _
  have b0 : Hid (((w.alloc (Obj.cells #[.slice (some ⟨I, 0, none⟩) n n, .chan (some C)] 51)).alloc (Obj.cells #[.int .i64 l, .slice ro rs.length rc] 37)).heap[w.heap.size]? = some (.cells #[.slice (some ⟨I, 0, none⟩) n n, .chan (some C)] 51 (0, 0))) := by
    show _ = _; rw [Below.heap_alloc _ _ _ (by simp)]; exact heap_alloc_new w _
  have S0 : Hid (SAt I C n ((rs.take 0).foldl Us.find st) ((w.alloc (Obj.cells #[.slice (some ⟨I, 0, none⟩) n n, .chan (some C)] 51)).alloc (Obj.cells #[.int .i64 l, .slice ro rs.length rc] 37))) := hS.later hB.out
  have HB0 : Hid (But I C w ((w.alloc (Obj.cells #[.slice (some ⟨I, 0, none⟩) n n, .chan (some C)] 51)).alloc (Obj.cells #[.int .i64 l, .slice ro rs.length rc] 37))) := But.of hB.out
  have HR : Hid (IntsAt M w ro rs) := hr
  have HIN : Hid _ := hin
  have HM : Hid _ := hm
  have HMM : Hid _ := hM
  clear hS hr hm hin hM
  go_enter Try.func48, Try.ntmps48
  go_wp2_with fail
  generalize ((w.alloc (Obj.cells #[.slice (some ⟨I, 0, none⟩) n n, .chan (some C)] 51)).alloc (Obj.cells #[.int .i64 l, .slice ro rs.length rc] 37)) = W at *
  go_loopw [9] (fun i wr => ∃ k : Nat, k ≤ rs.length ∧ i = .int .i64 k ∧ Hid (SAt I C n ((rs.take k).foldl Us.find st) wr) ∧ Hid (But I C w wr) ∧ Hid (wr.heap[w.heap.size]? = some (.cells #[.slice (some ⟨I, 0, none⟩) n n, .chan (some C)] 51 (0, 0)))) (fun i _ => rs.length - (intOf i).toNat)
  case atStart => exact ⟨0, Nat.zero_le _, rfl, S0, HB0, b0⟩
  case round =>
    obtain ⟨k, hk, rfl, hs, hb, hbx⟩ := hrel
    clear S0 HB0 b0 hB
    by_cases hkl : k < rs.length
    · obtain ⟨b, o, rfl, _, _, c0⟩ := (HR.out.later (hb.out.below HMM.out.1 HMM.out.2 hMw)).get k hkl
      have hx := HIN.out _ (List.getElem_mem hkl)
      have ST : Hid ((rs.take (k + 1)).foldl Us.find st = Us.find ((rs.take k).foldl Us.find st) rs[k]) := Gr.take_step _ _ _ _ hkl
      have HR1 : Us.Rm n ((rs.take k).foldl Us.find st) := HM.out.finds fun y hy => HIN.out y (List.mem_of_mem_take hy)
      generalize (rs.take k).foldl Us.find st = st1 at *
      generalize rs[k] = x at *
      have HF1 : Hid (Calls Try.prog 24 #[.agg #[.slice (some ⟨I, 0, none⟩) n n, .chan (some C)], .int .i64 x] wr fun e w' => e = .returned (.tuple #[]) ∧ Hid (But I C wr w') ∧ Hid (SAt I C n (Us.find st1 x) w')) := find_any st1 n I C x wr hs.out HR1 hx
      obtain ⟨q0, q1, _⟩ := cells_two_z hbx.out
      have hz := (Array.getElem?_eq_some_iff.1 hbx.out).1
      clear HR1 hx
      go_wp2_with (go_at_call 24; refine Calls.mono HF1.out ?_; rintro e w2 ⟨rfl, hbt, hs2⟩)
      rw [← ST.out] at hs2
      have hb2 : Hid (But I C w w2) := hb.out.trans hbt.out
      have hx2 : Hid (w2.heap[w.heap.size]? = some (.cells #[.slice (some ⟨I, 0, none⟩) n n, .chan (some C)] 51 (0, 0))) := (hbt.out.block _ hz (by omega) (by omega)).trans hbx.out
      clear ST HF1 hbt hb hbx hs q0 q1 hz
      go_roundw
      case rel => exact ⟨k + 1, by omega, by go_num, hs2, hb2, hx2⟩
      case measure => simp [intOf]; omega
    · have e : k = rs.length := by omega
      subst e
      rw [List.take_length] at hs
      go_wp2_with fail
      go_end0
      exact ⟨rfl, hb, hs⟩

set_option maxHeartbeats 800000 in
theorem symbols_is (n : Nat) (g : Gr.Gm) (A : GA) (w : World) (hn : g.terms.length + g.names.length = n) (h4 : n ≤ 8000) :
    Calls Try.prog 19 #[.agg (gmCells g A)] w fun e w' => e = .returned (.int .i64 (n : Int)) ∧ Below w.heap.size w w' := by
  obtain ⟨ta, tc, na, nc, ra, rac⟩ := A
  have hbW : Hid (Below w.heap.size w (w.alloc (Obj.cells #[.slice ta g.terms.length tc, .slice na g.names.length nc, .slice ra g.rules.length rac] 25))) := (Below.refl _ w).alloc (Nat.le_refl _) _
  have R : Hid (wrap64 ((g.terms.length : Int) + (g.names.length : Int)) = (n : Int)) := by show _ = _; unfold wrap64; omega
  clear hn h4
  simp only [gmCells]
  go_enter Try.func19, Try.ntmps19
  go_wp2_with fail
  go_ret
  exact ⟨ret_int R.out, hbW.out⟩

theorem make_bools7 (n : Nat) (h : n ≤ 8000) (W : World) : (Instr.makeSlice 30 (.int .i64 (n : Int)) (.int .i64 (n : Int))).run Try.prog W = .ok (.slice (some ⟨W.heap.size, 0, none⟩) n n) (W.alloc (.cells (Array.replicate n (Value.bool false)) 4)) := by
  obtain ⟨iA, hi, hz0, hz1, hz2⟩ := info_parts Try.infoBl6
  have := run_makeSlice (P := Try.prog) W 30 4 iA (.bool false) Try.underlying30 hi hz0 .i64 .i64 (n : Int) (n : Int) (by omega) (Int.le_refl _) (by rw [hz1]; omega) (by rw [hz2]; omega) (by omega)
  rw [this, hz1, made_bools6, show ((n : Int)).toNat = n from by omega, Nat.mul_one, List.toArray_replicate]
theorem gset2 {w : World} {b : Nat} {p q x y : Value} {ty : TypeId} (h : w.heap[b]? = some (.cells #[p, q] ty (0, 0))) : ((w.setCell ⟨b, 0, none⟩ x).setCell ⟨b, 1, none⟩ y).heap[b]? = some (.cells #[x, y] ty (0, 0)) := by
  simp [World.setCell, Array.getElem?_modify, h]

set_option maxRecDepth 100000 in
set_option maxHeartbeats 3200000 in
theorem begun7_any (n : Nat) (g : Gr.Gm) (A : GA) (w : World) (hn : g.terms.length + g.names.length = n) (h4 : n ≤ 4000) :
    Calls Try.prog 23 #[.agg (gmCells g A)] w fun e w' => ∃ I C, e = .returned (.agg #[.slice (some ⟨I, 0, none⟩) n n, .chan (some C)]) ∧ w.heap.size ≤ I ∧ w.heap.size ≤ C ∧ Hid (Below w.heap.size w w') ∧ Hid (SAt I C n ⟨List.replicate n false, []⟩ w') := by
  obtain ⟨ta, tc, na, nc, ra, rac⟩ := A
  have hmb := make_bools7 n (by omega)
  have hmc := make_chan6 n h4
  have HSY : Hid (∀ W : World, Calls Try.prog 19 #[.agg #[.slice ta g.terms.length tc, .slice na g.names.length nc, .slice ra g.rules.length rac]] W fun e w' => e = .returned (.int .i64 (n : Int)) ∧ Below W.heap.size W w') := fun W => symbols_is n g ⟨ta, tc, na, nc, ra, rac⟩ W hn (by omega)
  clear hn
  simp only [gmCells]
  have hB : Hid (Below w.heap.size w ((w.alloc (Obj.cells #[.slice ta g.terms.length tc, .slice na g.names.length nc, .slice ra g.rules.length rac] 25)).alloc (Obj.cells #[.slice none 0 0, .chan none] 51))) := ((Below.refl _ w).alloc (Nat.le_refl _) _).alloc (by simp) _
  have b1 : Hid (((w.alloc (Obj.cells #[.slice ta g.terms.length tc, .slice na g.names.length nc, .slice ra g.rules.length rac] 25)).alloc (Obj.cells #[.slice none 0 0, .chan none] 51)).heap[w.heap.size + 1]? = some (.cells #[.slice none 0 0, .chan none] 51 (0, 0))) := by
    show _ = _
    have := heap_alloc_new (w.alloc (Obj.cells #[.slice ta g.terms.length tc, .slice na g.names.length nc, .slice ra g.rules.length rac] 25)) (Obj.cells #[.slice none 0 0, .chan none] 51)
    simpa using this
  have hWs : Hid (((w.alloc (Obj.cells #[.slice ta g.terms.length tc, .slice na g.names.length nc, .slice ra g.rules.length rac] 25)).alloc (Obj.cells #[.slice none 0 0, .chan none] 51)).heap.size = w.heap.size + 2) := by show _ = _; simp
  go_enter Try.func23, Try.ntmps23
  go_wp2_with (go_at_call 19; fail)
  generalize ((w.alloc (Obj.cells #[.slice ta g.terms.length tc, .slice na g.names.length nc, .slice ra g.rules.length rac] 25)).alloc (Obj.cells #[.slice none 0 0, .chan none] 51)) = W0 at *
  refine Calls.mono (HSY.out _) ?_
  rintro e W ⟨rfl, hbS⟩
  have HB : Hid (Below w.heap.size w W) := hB.out.trans (hbS.mono hB.out.size)
  have c1 : Hid (W.heap[w.heap.size + 1]? = some (.cells #[.slice none 0 0, .chan none] 51 (0, 0))) := (hbS.block _ (Array.getElem?_eq_some_iff.1 b1.out).1).trans b1.out
  have hWz : w.heap.size + 2 ≤ W.heap.size := by have := hbS.size; rw [hWs.out] at this; exact this
  clear hbS hB b1 hWs HSY
  go_upto_region 2 with fail
  have HS : Hid (∀ w1 : World, Lat W.drew w1 → Below w.heap.size w w1 ∧ w.heap.size + 2 ≤ w1.heap.size ∧ Below W.heap.size W w1) := fun w1 hL => by
    have h := hL.of_drew
    exact ⟨HB.out.trans (Below.mono h HB.out.size), Nat.le_trans hWz h.size, h⟩
  refine wp_region_lat [.val (.int .i64 (n : Int)),
    .fact (fun v w' => ∃ I, v = .slice (some ⟨I, 0, none⟩) n n ∧ w.heap.size + 2 ≤ I ∧ w'.heap[I]? = some (.cells (Array.replicate n (Value.bool false)) 4 (0, 0))),
    .val (.int .i64 (n : Int)),
    .fact (fun v w' => ∃ C, v = .chan (some C) ∧ w.heap.size + 2 ≤ C ∧ w'.heap[C]? = some (.chan n #[] false 0 0 false)),
    .fact (fun v w' => ∃ I C, v = .agg #[.slice (some ⟨I, 0, none⟩) n n, .chan (some C)] ∧ (w.heap.size + 2 ≤ I ∧ w.heap.size + 2 ≤ C) ∧ w'.heap[I]? = some (.cells (Array.replicate n (Value.bool false)) 4 (0, 0)) ∧ w'.heap[C]? = some (.chan n #[] false 0 0 false))] [_] (by kernel_rfl) (by kernel_rfl) rfl ?kept ?walk
  case kept =>
    have kp : ∀ {b : Nat} {o : Obj} {w1 w2 : World}, Lat w1 w2 → w1.heap[b]? = some o → w2.heap[b]? = some o := fun hL h => by rw [hL.block _ (Array.getElem?_eq_some_iff.1 h).1]; exact h
    exact ⟨fun v w1 w2 hL ⟨I, e, h1, h2⟩ => ⟨I, e, h1, kp hL h2⟩, fun v w1 w2 hL ⟨C, e, h1, h2⟩ => ⟨C, e, h1, kp hL h2⟩, fun v w1 w2 hL ⟨I, C, e, h1, h2, h3⟩ => ⟨I, C, e, h1, kp hL h2, kp hL h3⟩, trivial⟩
  case walk =>
    refine wpFacts_val (by rfl) (fun w1 hL hd K hK => ?_) ?_
    · go_simp
      exact hK _ (Lat.refl _)
    refine wpFacts_norm (by simp only [Act.put, List.setIfInBounds_toArray, List.set_cons_zero, List.set_cons_succ]; rfl) (by simp only [List.nil_append]; rfl) ?_
    refine wpFacts_fact (by rfl) (fun w1 hL hd K hK => ?_) (fun v1 => ?_)
    · go_simp
      exact hK _ _ (Below.alloc (Below.refl _ _) (Nat.le_refl _) _) ⟨_, rfl, (HS.out w1 hL).2.1, heap_alloc_new _ _⟩
    refine wpFacts_norm (by simp only [Act.put, List.setIfInBounds_toArray, List.set_cons_zero, List.set_cons_succ]; rfl) (by simp only [List.cons_append, List.nil_append]; rfl) ?_
    refine wpFacts_val (by rfl) (fun w1 hL hd K hK => ?_) ?_
    · go_simp
      exact hK _ (Lat.refl _)
    refine wpFacts_norm (by simp only [Act.put, List.setIfInBounds_toArray, List.set_cons_zero, List.set_cons_succ]; rfl) (by simp only [List.cons_append, List.nil_append]; rfl) ?_
    refine wpFacts_fact (by rfl) (fun w1 hL hd K hK => ?_) (fun v3 => ?_)
    · go_simp
      exact hK _ _ (Below.alloc (Below.refl _ _) (Nat.le_refl _) _) ⟨_, rfl, (HS.out w1 hL).2.1, heap_alloc_new _ _⟩
    refine wpFacts_norm (by simp only [Act.put, List.setIfInBounds_toArray, List.set_cons_zero, List.set_cons_succ]; rfl) (by simp only [List.cons_append, List.nil_append]; rfl) ?_
    refine wpFacts_fact (by rfl) (fun w1 hL hd K hK => ?_) (fun v4 => ?_)
    · obtain ⟨I, rfl, i1, i2⟩ : ∃ I, v1 = .slice (some ⟨I, 0, none⟩) n n ∧ w.heap.size + 2 ≤ I ∧ w1.heap[I]? = some (.cells (Array.replicate n (Value.bool false)) 4 (0, 0)) := hd.1
      obtain ⟨C, rfl, j1, j2⟩ : ∃ C, v3 = .chan (some C) ∧ w.heap.size + 2 ≤ C ∧ w1.heap[C]? = some (.chan n #[] false 0 0 false) := hd.2.1
      have IJ : Hid (w1.heap[I]? = some (.cells (Array.replicate n (Value.bool false)) 4 (0, 0)) ∧ w1.heap[C]? = some (.chan n #[] false 0 0 false)) := ⟨i2, j2⟩
      clear i2 j2
      go_simp
      exact hK _ _ (Lat.refl _) ⟨I, C, rfl, ⟨i1, j1⟩, IJ.out⟩
    refine wpFacts_norm (by simp only [Act.put, List.setIfInBounds_toArray, List.set_cons_zero, List.set_cons_succ]; rfl) (by simp only [List.cons_append, List.nil_append]; rfl) ?_
    intro w1 hL ha
    obtain ⟨I, C, rfl, hIC, i2, j2⟩ : ∃ I C, v4 = .agg #[.slice (some ⟨I, 0, none⟩) n n, .chan (some C)] ∧ (w.heap.size + 2 ≤ I ∧ w.heap.size + 2 ≤ C) ∧ w1.heap[I]? = some (.cells (Array.replicate n (Value.bool false)) 4 (0, 0)) ∧ w1.heap[C]? = some (.chan n #[] false 0 0 false) := allHold_get 4 ha rfl rfl
    clear ha
    have hh := HS.out w1 hL
    have k1 := (hh.2.2.block _ (Array.getElem?_eq_some_iff.1 c1.out).1).trans c1.out
    have k2 := gset2 (x := .slice (some ⟨I, 0, none⟩) n n) (y := .chan (some C)) k1
    have hs : ∀ k, k ≠ w.heap.size + 1 → ((w1.setCell ⟨w.heap.size + 1, 0, none⟩ (.slice (some ⟨I, 0, none⟩) n n)).setCell ⟨w.heap.size + 1, 1, none⟩ (.chan (some C))).heap[k]? = w1.heap[k]? := fun k hk => by
      rw [Below.heap_setCell _ _ _ _ hk, Below.heap_setCell _ _ _ _ hk]
    have HI : Hid (SAt I C n ⟨List.replicate n false, []⟩ ((w1.setCell ⟨w.heap.size + 1, 0, none⟩ (.slice (some ⟨I, 0, none⟩) n n)).setCell ⟨w.heap.size + 1, 1, none⟩ (.chan (some C)))) := by
      refine ⟨?_, 0, 0, ?_⟩
      · rw [hs _ (by omega), i2]; simp
      · rw [hs _ (by omega), j2]; simp
    have HBB : Hid (Below w.heap.size w ((w1.setCell ⟨w.heap.size + 1, 0, none⟩ (.slice (some ⟨I, 0, none⟩) n n)).setCell ⟨w.heap.size + 1, 1, none⟩ (.chan (some C)))) :=
      (hh.1.setCell (by show w.heap.size ≤ w.heap.size + 1; omega) _).setCell (by show w.heap.size ≤ w.heap.size + 1; omega) _
    obtain ⟨d0, d1, z0, z1⟩ := cells_two_z k1
    obtain ⟨e0, e1, _⟩ := cells_two_z k2
    have hzl := (Array.getElem?_eq_some_iff.1 k1).1
    have E0 : Hid _ := e0
    have E1 : Hid _ := e1
    clear i2 j2 hL HS c1 hs k1 k2 hh e0 e1 hmb hmc
    go_wp2_with fail
    refine bodyPost_ret (v := .agg #[.slice (some ⟨I, 0, none⟩) n n, .chan (some C)]) (by simp [results, Try.results23, go_sem, E0.out, E1.out]) rfl ⟨I, C, rfl, by omega, by omega, HBB, HI⟩

/-- what holds of memory while 'all' goes -/
structure OInv7 (n I C S : Nat) (P : Nl.St → Prop) (st : Nl.St) (w wr : World) : Prop where
  but : But I C w wr
  at' : SAt I C n st wr
  inv : P st
  sb : wr.heap[S]? = some (.cells #[.slice (some ⟨I, 0, none⟩) n n, .chan (some C)] 51 (0, 0))

theorem OInv7.ne {n I C S : Nat} {P : Nl.St → Prop} {st : Nl.St} {w wr : World} (h : OInv7 n I C S P st w wr) : S ≠ I ∧ S ≠ C := by
  constructor
  · intro e; subst e
    have := h.at'.is
    rw [h.sb] at this
    exact absurd (Obj.cells.inj (Option.some.inj this)).2.1 (by decide)
  · intro e; subst e
    obtain ⟨_, _, hc⟩ := h.at'.ch
    rw [h.sb] at hc
    cases hc

set_option maxRecDepth 100000 in
set_option maxHeartbeats 3200000 in
theorem all7_any (P : Nl.St → Prop) (look : Int → Nl.St → Nl.St) (fn : FuncId) (hfn : ∀ (a : Array Value) (W : World), Sem.run Try.prog (callFunc fn a) W = .ok (.enter fn a) W) (A B : Nat) (st : Nl.St) (n I C : Nat) (w : World) (hS : SAt I C n st w) (hP : P st)
    (hnext : ∀ b x q, P ⟨b, x :: q⟩ → P (look x ⟨b, q⟩) ∧ Nl.left 0 n (look x ⟨b, q⟩) < Nl.left 0 n ⟨b, x :: q⟩)
    (hlook : ∀ b x q W, P ⟨b, x :: q⟩ → But I C w W → SAt I C n ⟨b, q⟩ W → Calls Try.prog fn #[.int .i64 x, .pointer (some ⟨A, 0, none⟩), .pointer (some ⟨B, 0, none⟩)] W fun e w' => e = .returned (.tuple #[]) ∧ Hid (But I C W w') ∧ Hid (SAt I C n (look x ⟨b, q⟩) w')) :
    Calls Try.prog 26 #[.agg #[.slice (some ⟨I, 0, none⟩) n n, .chan (some C)], .func (.func fn) #[] #[.pointer (some ⟨A, 0, none⟩), .pointer (some ⟨B, 0, none⟩)]] w fun e w' => e = .returned (.slice (some ⟨I, 0, none⟩) n n) ∧ ∃ b, P ⟨b, []⟩ ∧ Hid (But I C w w') ∧ Hid (SAt I C n ⟨b, []⟩ w') := by
  have HFN : Hid _ := hfn
  have HN : Hid _ := hnext
  have HL : Hid _ := hlook
  have hlt := hS.lt
  have HI : Hid (OInv7 n I C w.heap.size P st w (w.alloc (Obj.cells #[.slice (some ⟨I, 0, none⟩) n n, .chan (some C)] 51))) := ⟨But.of ((Below.refl _ w).alloc (Nat.le_refl _) _), hS.later ((Below.refl _ w).alloc (Nat.le_refl _) _), hP, heap_alloc_new w _⟩
  clear hS hP hnext hlook hfn
  go_enter Try.func26, Try.ntmps26
  go_upto_region 1 with fail
  generalize (w.alloc (Obj.cells #[.slice (some ⟨I, 0, none⟩) n n, .chan (some C)] 51)) = W3 at *
  generalize w.heap.size = S at *
  go_loopw [5] (fun _ wr => ∃ (st : Nl.St), Hid (OInv7 n I C S P st w wr)) (fun _ wr => Nl.left 0 n (stOf I C wr))
  case atStart => exact ⟨st, HI⟩
  case round =>
    obtain ⟨st', hA⟩ := hrel
    clear HI
    obtain ⟨c0, c1, _⟩ := cells_two_z hA.out.sb
    have hbl := (Array.getElem?_eq_some_iff.1 hA.out.sb).1
    obtain ⟨sn, rn, hch⟩ := hA.out.at'.ch
    have HCH : Hid _ := hch
    clear hch
    obtain ⟨bs, q⟩ := st'
    cases q with
    | nil =>
      go_upto_region 2 with fail
      refine wp_region_head ?_
      refine inReg_default (c := C) (cap := n) (s := sn) (r := rn) (z := .int .i64 0) (tm := false) rfl rfl (by simp [go_sem, execOp, rcase, Act.eval]) HCH.out ?_
      refine inReg_list ?_
      go_wp2_with fail
      go_ret
      exact ⟨rfl, bs, hA.out.inv, hA.out.but, hA.out.at'⟩
    | cons x q =>
      go_upto_region 2 with fail
      refine wp_region_head ?_
      refine inReg_taken (c := C) (cap := n) (buf := ((x :: q).map (Value.int .i64)).toArray) (s := sn) (r := rn) (z := .int .i64 0) (closed := false) (tm := false) rfl rfl (by simp [go_sem, execOp, rcase, Act.eval]) HCH.out (by simp) ?_
      refine inReg_list ?_
      have hne := hA.out.ne
      have S4 : Hid _ := hA.out.at'.take sn (rn + 1)
      have hb4 : Hid (But I C wr (wr.setChan C n (((x :: q).map (Value.int .i64)).toArray.extract 1 ((x :: q).map (Value.int .i64)).toArray.size) false sn (rn + 1) false)) := (But.refl I C wr).setChan _ _ _ _ _ _
      have hx0 : ((x :: q).map (Value.int .i64)).toArray.getD 0 undef = .int .i64 x := by simp
      rw [hx0]
      generalize (wr.setChan C n (((x :: q).map (Value.int .i64)).toArray.extract 1 ((x :: q).map (Value.int .i64)).toArray.size) false sn (rn + 1) false) = W4 at *
      have HSB : Hid (W4.heap[S]? = some (.cells #[.slice (some ⟨I, 0, none⟩) n n, .chan (some C)] 51 (0, 0))) := (hb4.out.block _ hbl hne.1 hne.2).trans hA.out.sb
      have HB4 : Hid (But I C w W4) := hA.out.but.trans hb4.out
      clear c0 c1
      obtain ⟨c0, c1, _⟩ := cells_two_z HSB.out
      have hbl4 := (Array.getElem?_eq_some_iff.1 HSB.out).1
      have HCA : Hid (Calls Try.prog fn #[.int .i64 x, .pointer (some ⟨A, 0, none⟩), .pointer (some ⟨B, 0, none⟩)] W4 fun e w' => e = .returned (.tuple #[]) ∧ Hid (But I C W4 w') ∧ Hid (SAt I C n (look x ⟨bs, q⟩) w')) := HL.out bs x q W4 hA.out.inv HB4.out S4.out
      have HNX : Hid _ := HN.out bs x q hA.out.inv
      have e1 := hA.out.at'.read
      clear hx0 HCH
      go_wp2_with fail
      rw [HFN.out]
      refine Calls.mono HCA.out ?_
      rintro e w5 ⟨rfl, hb5, hs5⟩
      have hA5 : Hid (OInv7 n I C S P (look x ⟨bs, q⟩) w w5) := ⟨HB4.out.trans hb5.out, hs5.out, HNX.out.1, (hb5.out.block _ hbl4 hne.1 hne.2).trans HSB.out⟩
      have e2 := hs5.out.read
      have HM : Hid (Nl.left 0 n (stOf I C w5) < Nl.left 0 n (stOf I C wr)) := by
        show _ < _
        rw [e1, e2]
        exact HNX.out.2
      clear c0 c1 hs5 hb5 HCA HB4 HSB S4 hb4 e1 e2 HNX
      go_wp2_with fail
      go_roundw
      case rel => exact ⟨_, hA5⟩
      case measure => exact HM.out
end Go.Proofs.Ytkcohemphaafkaa
