/-
  Layer 6 (nullable): allAre: whether all symbols of a list are told of.
  Layer 6 (nullable): the search's memory (the answers, the channel of what has changed); ask: one rule is asked.
  Layer 6 (nullable): askRulesWith: the rules with a symbol are asked again.
  Layer 6 (nullable): begun: a search that has asked each rule once.
-/
import Derived.Test.YtdocbgfpnaiijaaNlMath
import Derived.Test.YtdocbgfpnaiijaaSchLib
import Derived.Test.YtdocbgfpnaiijaaGrSmall
import Derived.Test.YtdocbgfpnaiijaaChLib
import Derived.Test.YtdocbgfpnaiijaaOwnLib2
import Derived.Test.YtdocbgfpnaiijaaGrRules
import Derived.Deep.DeepCutAuto
namespace Go.Proofs.Ytdocbgfpnaiijaa
open Go.RowKit

set_option maxHeartbeats 800000 in
theorem notAt_any (bs : List Bool) (io : Option Addr) (ic : Nat) (s : Int) (P : Nat) (w : World) (h : BoolsAt w.heap.size w io bs) (c0 : w.cell? ⟨P, 0, none⟩ = some (.slice io bs.length ic)) :
    Calls Try.prog 57 #[.int .i64 s, .pointer (some ⟨P, 0, none⟩)] w fun e w' => e = .returned (.bool (!Nl.isAt bs s)) ∧ w' = w := by
  have HC : Hid _ := h.get
  clear h
  by_cases h0 : s < 0
  · have R : Hid (true = !Nl.isAt bs s) := by show _ = _; simp [Nl.isAt]; omega
    have hd : decide (s < 0) = true := by simp [h0]
    clear h0
    go_enter Try.func57, Try.ntmps57
    go_wp2_with fail
    go_ret
    exact ⟨ret_bool R.out, rfl⟩
  · have hd : decide (s < 0) = false := by simp; omega
    by_cases h1 : s < bs.length
    · obtain ⟨k, rfl⟩ : ∃ k : Nat, s = k := ⟨s.toNat, by omega⟩
      have hk : k < bs.length := by omega
      have hd1 : decide (bs.length ≤ k) = false := by simp; omega
      obtain ⟨b, o, rfl, _, _, c1⟩ := HC.out k hk
      have R : Hid ((!bs[k]) = !Nl.isAt bs (k : Int)) := by show _ = _; rw [Nl.isAt_get (by omega) (by simpa using hk)]; simp
      generalize bs[k] = x at *
      go_enter Try.func57, Try.ntmps57
      go_wp2_with fail
      go_ret
      exact ⟨ret_bool R.out, rfl⟩
    · have hd1 : decide ((bs.length : Int) ≤ s) = true := by simp; omega
      have R : Hid (true = !Nl.isAt bs s) := by
        show _ = _
        cases e : Nl.isAt bs s
        · rfl
        · have := (Nl.isAt_lt e).2; omega
      clear h0 h1
      go_enter Try.func57, Try.ntmps57
      go_wp2_with fail
      go_ret
      exact ⟨ret_bool R.out, rfl⟩

set_option maxHeartbeats 1600000 in
theorem indexNot_any (bs : List Bool) (xs : List Int) (hx : xs.length ≤ 4000) (io ao : Option Addr) (ic c : Nat) (P : Nat) (w : World) (h : BoolsAt w.heap.size w io bs) (hxs : IntsAt w.heap.size w ao xs) (c0 : w.cell? ⟨P, 0, none⟩ = some (.slice io bs.length ic)) :
    Calls Try.prog 81 #[.slice ao xs.length c, .func (.func 57) #[] #[.pointer (some ⟨P, 0, none⟩)]] w fun e w' => ∃ z : Int, e = .returned (.int .i64 z) ∧ w' = w ∧ Hid ((!decide (0 ≤ z)) = Nl.allIn bs xs) := by
  have HC : Hid _ := hxs.get
  have CL : Hid (∀ s : Int, Calls Try.prog 57 #[.int .i64 s, .pointer (some ⟨P, 0, none⟩)] w fun e w' => e = .returned (.bool (!Nl.isAt bs s)) ∧ w' = w) := fun s => notAt_any bs io ic s P w h c0
  clear h hxs c0
  go_enter Try.func81, Try.ntmps81
  go_wp2_with fail
  go_loopw [8] (fun i wr => ∃ q : Nat, q ≤ xs.length ∧ i = .int .i64 q ∧ Hid (Nl.allIn bs xs = Nl.allIn bs (xs.drop q)) ∧ wr = w) (fun i _ => xs.length - (intOf i).toNat)
  case atStart => exact ⟨0, Nat.zero_le _, rfl, by show _ = _; rw [List.drop_zero], rfl⟩
  case round =>
    obtain ⟨q, hq, rfl, hE, rfl⟩ := hrel
    by_cases hlt : q < xs.length
    · obtain ⟨b, o, rfl, hb1, _, k0⟩ := HC.out q hlt
      have PE := hE.out
      rw [allIn_drop bs xs q hlt] at PE
      have C1 : Hid (Calls Try.prog 57 #[.int .i64 xs[q], .pointer (some ⟨P, 0, none⟩)] wr fun e w' => e = .returned (.bool (!Nl.isAt bs xs[q])) ∧ w' = wr) := CL.out xs[q]
      generalize xs[q] = x at *
      cases e : Nl.isAt bs x
      · have R : Hid ((!decide ((0 : Int) ≤ (q : Int))) = Nl.allIn bs xs) := by show _ = _; rw [PE, e]; simp
        rw [e] at C1
        clear PE hE
        go_wp2_with fail
        refine C1.out.mono ?_
        rintro e w1 ⟨rfl, rfl⟩
        simp only [Bool.not_false]
        go_wp2_with fail
        go_ret
        exact ⟨_, rfl, rfl, R⟩
      · have R : Hid (Nl.allIn bs xs = Nl.allIn bs (xs.drop (q + 1))) := by show _ = _; rw [PE, e]; simp
        rw [e] at C1
        clear PE hE
        go_wp2_with fail
        refine C1.out.mono ?_
        rintro e w1 ⟨rfl, rfl⟩
        simp only [Bool.not_true]
        go_wp2_with fail
        go_roundw
        case rel => exact ⟨q + 1, by omega, by go_num, R, trivial⟩
        case measure => simp [intOf]; omega
    · have R : Hid ((!decide ((0 : Int) ≤ -1)) = Nl.allIn bs xs) := by show _ = _; rw [hE.out, List.drop_of_length_le (by omega)]; rfl
      clear hE
      go_wp2_with fail
      go_ret
      exact ⟨_, rfl, rfl, R⟩

set_option maxHeartbeats 800000 in
theorem allAre_is (r : Bool) (bs : List Bool) (xs : List Int) (hx : xs.length ≤ 4000) (io ao : Option Addr) (ic c : Nat) (w : World) (h : BoolsAt w.heap.size w io bs) (hxs : IntsAt w.heap.size w ao xs) (hr : Nl.allIn bs xs = r) :
    Calls Try.prog 39 #[.slice io bs.length ic, .slice ao xs.length c] w fun e w' => e = .returned (.bool r) ∧ Below w.heap.size w w' := by
  have hmf : ∀ (fn : Fn) (first cap : Array Value) (w : World), (Instr.makeFunc fn first cap).run Try.prog w = .ok (.func fn first cap) w := fun _ _ _ _ => rfl
  have hb : Hid (Below w.heap.size w (w.alloc (Obj.cells #[Value.slice io bs.length ic] 28))) := (Below.refl _ w).alloc (Nat.le_refl _) _
  have IX : Hid (∀ _ : Unit, _) := fun _ => indexNot_any bs xs hx io ao ic c w.heap.size (w.alloc (Obj.cells #[Value.slice io bs.length ic] 28)) (h.later hb.out).size (hxs.later hb.out).size (by simp [go_sem])
  have HR : Hid _ := hr
  clear h hxs hr
  have CF : Hid (∀ W, Calls Try.prog 81 #[.slice ao xs.length c, .func (.func 57) #[] #[.pointer (some ⟨w.heap.size, 0, none⟩)]] W (fun e w' => ∃ z : Int, e = .returned (.int .i64 z) ∧ w' = W ∧ Hid ((!decide (0 ≤ z)) = Nl.allIn bs xs)) →
      Calls Try.prog 56 #[.slice ao xs.length c, .func (.func 57) #[] #[.pointer (some ⟨w.heap.size, 0, none⟩)]] W (fun e w' => e = .returned (.bool (!r)) ∧ w' = W)) := by
    intro W hW
    have HW : Hid (∀ _ : Unit, _) := fun _ => hW
    clear hW
    go_enter Try.func56, Try.ntmps56
    go_wp2_with (go_at_call 81; refine (HW.out ()).mono ?_; rintro e w1 ⟨z, rfl, rfl, hz⟩)
    go_ret
    exact ⟨ret_bool (by rw [← HR.out, ← hz.out]; simp), rfl⟩
  go_enter Try.func39, Try.ntmps39
  go_wp2_with (go_at_call 56; refine (CF.out _ (IX.out ())).mono ?_; rintro e w1 ⟨rfl, rfl⟩)
  go_ret
  exact ⟨ret_bool (by simp), hb.out⟩
end Go.Proofs.Ytdocbgfpnaiijaa

namespace Go.Proofs.Ytdocbgfpnaiijaa
open Go.RowKit Go.Conc

/-- the search, as a value -/
def schCells (g : Gr.Gm) (A : GA) (I n C : Nat) : Array Value := #[.slice A.ta g.terms.length A.tc, .slice A.na g.names.length A.nc, .slice A.ra g.rules.length A.rc, .slice (some ⟨I, 0, none⟩) n n, .chan (some C)]

set_option maxRecDepth 100000 in
set_option maxHeartbeats 1600000 in
theorem ask_any (st : Nl.St) (g : Gr.Gm) (A : GA) (N I C cap : Nat) (r : Gr.Rl) (ro : Option Addr) (rc : Nat) (w : World) (hS : SAt I C cap st w) (hr : IntsAt w.heap.size w ro r.2) (hl : r.2.length ≤ 4000)
    (h0 : 0 ≤ r.1 ∧ r.1 < st.is.length) (hn : st.is.length = N) (hroom : Nl.isAt st.is r.1 = false ∧ Nl.allIn st.is r.2 = true → st.q.length < cap) :
    Calls Try.prog 79 #[.agg (schCells g A I N C), .agg #[.int .i64 r.1, .slice ro r.2.length rc]] w fun e w' => e = .returned (.tuple #[]) ∧ Hid (But I C w w') ∧ Hid (SAt I C cap (Nl.ask st r) w') := by
  subst hn
  obtain ⟨l, rs⟩ := r
  obtain ⟨ta, tc, na, nc, ra, rac⟩ := A
  obtain ⟨k, rfl⟩ : ∃ k : Nat, l = k := ⟨l.toNat, by simp only at h0; omega⟩
  have hk : k < st.is.length := by simp only at h0; omega
  simp only [schCells] at hroom hl hr ⊢
  have hI := hS.lt.1
  have hC := hS.lt.2
  obtain ⟨c0, f0⟩ := hS.cell k hk
  have HS : Hid (SAt I C cap st w) := hS
  have HR : Hid (IntsAt w.heap.size w ro rs) := hr
  have HM : Hid _ := hroom
  have e0 : Nl.isAt st.is (k : Int) = st.is[k] := by rw [Nl.isAt_get (by omega) (by simpa using hk)]; simp
  clear hS hr h0 hroom
  have HA : Hid (Nl.ask st ((k : Int), rs) = if Nl.isAt st.is (k : Int) = false ∧ Nl.allIn st.is rs = true then ⟨Nl.tell st.is (k : Int), st.q ++ [(k : Int)]⟩ else st) := rfl
  have hB : Hid (Below w.heap.size w ((w.alloc (Obj.cells #[.slice ta g.terms.length tc, .slice na g.names.length nc, .slice ra g.rules.length rac, .slice (some ⟨I, 0, none⟩) st.is.length st.is.length, .chan (some C)] 86)).alloc (Obj.cells #[.int .i64 (k : Int), .slice ro rs.length rc] 31))) := ((Below.refl _ w).alloc (Nat.le_refl _) _).alloc (by simp) _
  cases hb : st.is[k]
  · rw [hb] at c0 e0
    have HC : Hid (∀ b : Bool, Nl.allIn st.is rs = b → ∀ W : World, Below w.heap.size w W → Calls Try.prog 39 #[.slice (some ⟨I, 0, none⟩) st.is.length st.is.length, .slice ro rs.length rc] W fun e w' => e = .returned (.bool b) ∧ Below W.heap.size W w') :=
      fun b hb W hW => allAre_is b st.is rs hl _ _ _ _ W (HS.out.bools.next hW) (HR.out.later hW).size hb
    cases ha : Nl.allIn st.is rs
    · have HC1 : Hid _ := HC.out false ha
      have R : Hid (Nl.ask st ((k : Int), rs) = st) := by show _ = _; rw [HA.out, if_neg (by simp [ha])]
      clear HC HA HM
      go_enter Try.func79, Try.ntmps79
      go_wp2_with (first | (go_at_call 39; refine (HC1.out _ hB.out).mono ?_; rintro e w1 ⟨rfl, hb1⟩))
      go_end0
      have hb2 := hB.out.trans (hb1.mono hB.out.size)
      refine ⟨rfl, But.of hb2, ?_⟩
      show SAt _ _ _ _ _
      rw [R.out]; exact HS.out.later hb2
    · have HC1 : Hid _ := HC.out true ha
      have R : Hid (Nl.ask st ((k : Int), rs) = ⟨Nl.tell st.is (k : Int), st.q ++ [(k : Int)]⟩) := by show _ = _; rw [HA.out, if_pos ⟨e0, ha⟩]
      have hrm := HM.out ⟨e0, ha⟩
      clear HC HA HM
      go_enter Try.func79, Try.ntmps79
      have b0 : Hid (((w.alloc (Obj.cells #[.slice ta g.terms.length tc, .slice na g.names.length nc, .slice ra g.rules.length rac, .slice (some ⟨I, 0, none⟩) st.is.length st.is.length, .chan (some C)] 86)).alloc (Obj.cells #[.int .i64 (k : Int), .slice ro rs.length rc] 31)).heap[w.heap.size]? = some (.cells #[.slice ta g.terms.length tc, .slice na g.names.length nc, .slice ra g.rules.length rac, .slice (some ⟨I, 0, none⟩) st.is.length st.is.length, .chan (some C)] 86 (0, 0))) := by
        show _ = _; rw [Below.heap_alloc _ _ _ (by simp)]; exact heap_alloc_new w _
      have b1 : Hid (((w.alloc (Obj.cells #[.slice ta g.terms.length tc, .slice na g.names.length nc, .slice ra g.rules.length rac, .slice (some ⟨I, 0, none⟩) st.is.length st.is.length, .chan (some C)] 86)).alloc (Obj.cells #[.int .i64 (k : Int), .slice ro rs.length rc] 31)).heap[w.heap.size + 1]? = some (.cells #[.int .i64 (k : Int), .slice ro rs.length rc] 31 (0, 0))) := by
        show _ = _
        have := heap_alloc_new (w.alloc (Obj.cells #[.slice ta g.terms.length tc, .slice na g.names.length nc, .slice ra g.rules.length rac, .slice (some ⟨I, 0, none⟩) st.is.length st.is.length, .chan (some C)] 86)) (Obj.cells #[.int .i64 (k : Int), .slice ro rs.length rc] 31)
        simpa using this
      go_wp2_with (go_at_call 39; fail)
      generalize ((w.alloc (Obj.cells #[.slice ta g.terms.length tc, .slice na g.names.length nc, .slice ra g.rules.length rac, .slice (some ⟨I, 0, none⟩) st.is.length st.is.length, .chan (some C)] 86)).alloc (Obj.cells #[.int .i64 (k : Int), .slice ro rs.length rc] 31)) = W at *
      refine (HC1.out _ hB.out).mono ?_
      rintro e w1 ⟨rfl, hb1⟩
      have hb2 : Hid _ := hB.out.trans (hb1.mono hB.out.size)
      have z0 := (Array.getElem?_eq_some_iff.1 b0.out).1
      have z1 := (Array.getElem?_eq_some_iff.1 b1.out).1
      have k0 : Hid _ := (hb1.block _ z0).trans b0.out
      have k1 : Hid _ := (hb1.block _ z1).trans b1.out
      have S1 : Hid _ := HS.out.later hb2.out
      have z1' : w.heap.size + 1 < w1.heap.size := Nat.lt_of_lt_of_le z1 hb1.size
      clear HC1 hB b0 b1 hb1 z0 z1 c0 f0
      have q0 : w1.cell? ⟨w.heap.size, 3, none⟩ = some (.slice (some ⟨I, 0, none⟩) st.is.length st.is.length) := by simp [World.cell?, k0.out]
      have q1 : w1.cell? ⟨w.heap.size, 4, none⟩ = some (.chan (some C)) := by simp [World.cell?, k0.out]
      have q2 : w1.cell? ⟨w.heap.size + 1, 0, none⟩ = some (.int .i64 (k : Int)) := by simp [World.cell?, k1.out]
      obtain ⟨c0, f0⟩ := S1.out.cell k hk
      rw [hb] at c0
      have n0 : I ≠ w.heap.size := by omega
      have n1 : I ≠ w.heap.size + 1 := by omega
      simp only []
      iterate 31 go_step
      refine wp_region_last (pre := [_, _, _, _]) ?_
      simp only [List.cons_append, List.nil_append, List.length_cons, List.length_nil, Nat.zero_add, Nat.reduceAdd]
      go_wp2_with fail
      obtain ⟨sn, rn, hch⟩ := (S1.out.tell k).ch
      have S2 : Hid _ := S1.out.tell k
      refine inReg_send (c := C) (cap := cap) (buf := (st.q.map (Value.int .i64)).toArray) (s := sn) (r := rn) (v := .int .i64 (k : Int)) (z := .tuple #[]) (tm := false) rfl rfl (by simp [execOp, scase, Act.eval]) hch (by simpa using hrm) ?_
      refine inReg_ops ?_
      simp only [wpOps]
      go_end0
      refine ⟨rfl, ((But.of hb2.out).setCell _ _).setChan _ _ _ _ _ _, ?_⟩
      show SAt _ _ _ _ _
      rw [R.out]
      exact S2.out.send _ _ _
  · rw [hb] at c0 e0
    have R : Hid (Nl.ask st ((k : Int), rs) = st) := by show _ = _; rw [HA.out, if_neg (by simp [e0])]
    clear HA HM
    go_enter Try.func79, Try.ntmps79
    go_wp2_with fail
    go_end0
    refine ⟨rfl, But.of hB.out, ?_⟩
    show SAt _ _ _ _ _
    rw [R.out]; exact HS.out.later hB.out
end Go.Proofs.Ytdocbgfpnaiijaa

namespace Go.Proofs.Ytdocbgfpnaiijaa
open Go.RowKit Go.Conc

/-- amid asking the rules again -/
structure AInv6 (T n N I C cap : Nat) (rs : List Gr.Rl) (todo : Gr.Rl → Prop) (st : Nl.St) (m : Nat) (W wr : World) : Prop where
  but : But I C W wr
  at' : SAt I C cap st wr
  inv : Nl.Inv T n rs todo st
  few : Nl.left T n st ≤ m

theorem AInv6.later {T n N I C cap : Nat} {rs : List Gr.Rl} {todo : Gr.Rl → Prop} {st : Nl.St} {m : Nat} {W wr w' : World} (h : AInv6 T n N I C cap rs todo st m W wr) (hb : Below wr.heap.size wr w') : AInv6 T n N I C cap rs todo st m W w' :=
  ⟨h.but.trans (But.of hb), h.at'.later hb, h.inv, h.few⟩

set_option maxRecDepth 100000 in
set_option maxHeartbeats 3200000 in
theorem askRulesWith_any (st : Nl.St) (g : Gr.Gm) (A : GA) (T n N I C : Nat) (x : Int) (w : World) (hf : Nl.Fit T n g.rules) (hN : N ≤ I ∧ N ≤ C) (hG : RlsAt N w A.ra g.rules) (hrc : g.rules.length ≤ 4000) (h8 : ∀ r ∈ g.rules, r.2.length ≤ 4000)
    (hS : SAt I C (n - T) st w) (hI : Nl.Inv T n g.rules (fun r => x ∈ r.2 ∧ r ∈ g.rules.drop 0) st) :
    Calls Try.prog 55 #[.agg (schCells g A I n C), .int .i64 x] w fun e w' => e = .returned (.tuple #[]) ∧ ∃ st', Hid (AInv6 T n N I C (n - T) g.rules (fun _ => False) st' (Nl.left T n st) w w') := by
  obtain ⟨ta, tc, na, nc, ra, rac⟩ := A
  have hlt := hS.lt
  have HG : Hid (RlsAt N w ra g.rules) := hG
  have HN : Hid _ := hN
  have H8 : Hid _ := h8
  have HF : Hid _ := hf
  have hNw : N ≤ w.heap.size := by omega
  have HAI : Hid (∀ (st : Nl.St) (r : Gr.Rl) (ro : Option Addr) (rc : Nat) (W : World), SAt I C (n - T) st W → IntsAt W.heap.size W ro r.2 → r.2.length ≤ 4000 → (0 ≤ r.1 ∧ r.1 < st.is.length) → st.is.length = n → (Nl.isAt st.is r.1 = false ∧ Nl.allIn st.is r.2 = true → st.q.length < n - T) →
      Calls Try.prog 79 #[.agg (schCells g ⟨ta, tc, na, nc, ra, rac⟩ I n C), .agg #[.int .i64 r.1, .slice ro r.2.length rc]] W fun e w' => e = .returned (.tuple #[]) ∧ Hid (But I C W w') ∧ Hid (SAt I C (n - T) (Nl.ask st r) w')) :=
    fun st r ro rc W h1 h2 h3 h4 h5 h6 => ask_any st g _ n I C (n - T) r ro rc W h1 h2 h3 h4 h5 h6
  have hB : Hid (Below w.heap.size w (w.alloc (Obj.cells #[.slice ta g.terms.length tc, .slice na g.names.length nc, .slice ra g.rules.length rac, .slice (some ⟨I, 0, none⟩) n n, .chan (some C)] 86))) := (Below.refl _ w).alloc (Nat.le_refl _) _
  have b0 : Hid ((w.alloc (Obj.cells #[.slice ta g.terms.length tc, .slice na g.names.length nc, .slice ra g.rules.length rac, .slice (some ⟨I, 0, none⟩) n n, .chan (some C)] 86)).heap[w.heap.size]? = some (.cells #[.slice ta g.terms.length tc, .slice na g.names.length nc, .slice ra g.rules.length rac, .slice (some ⟨I, 0, none⟩) n n, .chan (some C)] 86 (0, 0))) := heap_alloc_new w _
  have A0 : Hid (AInv6 T n N I C (n - T) g.rules (fun r => x ∈ r.2 ∧ r ∈ g.rules.drop 0) st (Nl.left T n st) w (w.alloc (Obj.cells #[.slice ta g.terms.length tc, .slice na g.names.length nc, .slice ra g.rules.length rac, .slice (some ⟨I, 0, none⟩) n n, .chan (some C)] 86))) := ⟨But.of hB.out, hS.later hB.out, hI, Nat.le_refl _⟩
  clear hG hN h8 hf hS hI
  simp only [schCells] at HAI ⊢
  go_enter Try.func55, Try.ntmps55
  go_wp2_with fail
  generalize (w.alloc (Obj.cells #[.slice ta g.terms.length tc, .slice na g.names.length nc, .slice ra g.rules.length rac, .slice (some ⟨I, 0, none⟩) n n, .chan (some C)] 86)) = W at *
  go_loopw [10] (fun i wr => ∃ (k : Nat) (st' : Nl.St), k ≤ g.rules.length ∧ i = .int .i64 k ∧ Hid (AInv6 T n N I C (n - T) g.rules (fun r => x ∈ r.2 ∧ r ∈ g.rules.drop k) st' (Nl.left T n st) w wr) ∧ Hid (wr.heap[w.heap.size]? = some (.cells #[.slice ta g.terms.length tc, .slice na g.names.length nc, .slice ra g.rules.length rac, .slice (some ⟨I, 0, none⟩) n n, .chan (some C)] 86 (0, 0)))) (fun i _ => g.rules.length - (intOf i).toNat)
  case atStart => exact ⟨0, st, Nat.zero_le _, rfl, A0, b0⟩
  case round =>
    obtain ⟨k, st', hk, rfl, hA, hb⟩ := hrel
    clear A0 b0
    by_cases hkl : k < g.rules.length
    · obtain ⟨b, o, ro, rc, rfl, _, _, k0, k1, ki, _⟩ := (HG.out.later (hA.out.but.below HN.out.1 HN.out.2 hNw)) k hkl
      have hm : g.rules[k] ∈ g.rules := List.getElem_mem hkl
      have h8 := H8.out _ hm
      have KI : Hid (IntsAt N wr ro g.rules[k].2) := ki
      have Q1 : Hid _ := hA.out.inv.againStep HF.out hkl
      have Q2 : Hid _ := hA.out.inv.ask HF.out hm
      have Q3 : Hid _ := HF.out.left _ hm
      clear ki hm
      generalize g.rules[k] = y at *
      obtain ⟨l, rs⟩ := y
      simp only at k0 k1 h8
      have hbn : Hid (Below wr.heap.size wr (wr.alloc (Obj.cells #[.int .i64 l, .slice ro rs.length rc] 31))) := (Below.refl _ wr).alloc (Nat.le_refl _) _
      have kn : Hid ((wr.alloc (Obj.cells #[.int .i64 l, .slice ro rs.length rc] 31)).heap[wr.heap.size]? = some (.cells #[.int .i64 l, .slice ro rs.length rc] 31 (0, 0))) := heap_alloc_new wr _
      have hzw : w.heap.size < wr.heap.size := (Array.getElem?_eq_some_iff.1 hb.out).1
      have KW : Hid (IntsAt (wr.alloc (Obj.cells #[.int .i64 l, .slice ro rs.length rc] 31)).heap.size (wr.alloc (Obj.cells #[.int .i64 l, .slice ro rs.length rc] 31)) ro rs) := (KI.out.later (hbn.out.mono (by omega))).size
      have CI : Hid (∀ b : Bool, decide (x ∈ rs) = b → Calls Try.prog 80 #[.slice ro rs.length rc, .int .i64 x] (wr.alloc (Obj.cells #[.int .i64 l, .slice ro rs.length rc] 31)) fun e w' => e = .returned (.bool b) ∧ w' = (wr.alloc (Obj.cells #[.int .i64 l, .slice ro rs.length rc] 31))) :=
        fun b hb => containsInt_is b rs h8 _ _ _ _ KW.out hb
      by_cases hx : x ∈ rs
      · have CT : Hid _ := CI.out true (decide_eq_true hx)
        clear CI
        go_wp2_with (go_at_call 80; fail)
        generalize (wr.alloc (Obj.cells #[.int .i64 l, .slice ro rs.length rc] 31)) = W2 at *
        refine Calls.mono CT.out ?_
        rintro e w1 ⟨rfl, rfl⟩
        have hb2 : Hid _ := (hbn.out.block _ hzw).trans hb.out
        have hA2 : Hid _ := hA.out.later hbn.out
        have hzn := (Array.getElem?_eq_some_iff.1 kn.out).1
        have hzw2 := (Array.getElem?_eq_some_iff.1 hb2.out).1
        have HAS : Hid _ := HAI.out st' (l, rs) ro rc w1 hA2.out.at' KW.out h8 ⟨by have := Q3.out; omega, by rw [hA2.out.inv.len]; exact Q3.out.2⟩ hA2.out.inv.len Q2.out.2.2
        have m0 : w1.cell? ⟨wr.heap.size, 0, none⟩ = some (.int .i64 l) := by simp [World.cell?, kn.out]
        have m1 : w1.cell? ⟨wr.heap.size, 1, none⟩ = some (.slice ro rs.length rc) := by simp [World.cell?, kn.out]
        have p0 : w1.cell? ⟨w.heap.size, 0, none⟩ = some (.slice ta g.terms.length tc) := by simp [World.cell?, hb2.out]
        have p1 : w1.cell? ⟨w.heap.size, 1, none⟩ = some (.slice na g.names.length nc) := by simp [World.cell?, hb2.out]
        have p2 : w1.cell? ⟨w.heap.size, 2, none⟩ = some (.slice (some ⟨b, o, none⟩) g.rules.length rac) := by simp [World.cell?, hb2.out]
        have p3 : w1.cell? ⟨w.heap.size, 3, none⟩ = some (.slice (some ⟨I, 0, none⟩) n n) := by simp [World.cell?, hb2.out]
        have p4 : w1.cell? ⟨w.heap.size, 4, none⟩ = some (.chan (some C)) := by simp [World.cell?, hb2.out]
        clear CT hbn hb HAI
        go_wp2_with (go_at_call 79; fail)
        refine Calls.mono HAS.out ?_
        rintro e w3 ⟨rfl, hbt, hs3⟩
        have e1 : Nl.askIf x st' (l, rs) = Nl.ask st' (l, rs) := if_pos hx
        have hA3 : Hid (AInv6 T n N I C (n - T) g.rules (fun r => x ∈ r.2 ∧ r ∈ g.rules.drop (k + 1)) (Nl.ask st' (l, rs)) (Nl.left T n st) w w3) :=
          ⟨hA2.out.but.trans hbt.out, hs3.out, by rw [← e1]; exact Q1.out.1, by rw [← e1]; exact Nat.le_trans Q1.out.2 hA2.out.few⟩
        have hb3 : Hid _ := (hbt.out.block _ hzw2 (by omega) (by omega)).trans hb2.out
        clear hA2 hA hs3 hbt hb2 m0 m1 p0 p1 p2 p3 p4 HAS KW KI kn k0 k1 e1 Q1 Q2 Q3
        go_wp2_with fail
        go_roundw
        case rel => exact ⟨k + 1, _, by omega, by go_num, hA3, hb3⟩
        case measure => simp [intOf]; omega
      · have CT : Hid _ := CI.out false (decide_eq_false hx)
        clear CI
        go_wp2_with (go_at_call 80; fail)
        generalize (wr.alloc (Obj.cells #[.int .i64 l, .slice ro rs.length rc] 31)) = W2 at *
        refine Calls.mono CT.out ?_
        rintro e w1 ⟨rfl, rfl⟩
        have hb2 : Hid _ := (hbn.out.block _ hzw).trans hb.out
        have e1 : Nl.askIf x st' (l, rs) = st' := if_neg hx
        have hA3 : Hid (AInv6 T n N I C (n - T) g.rules (fun r => x ∈ r.2 ∧ r ∈ g.rules.drop (k + 1)) st' (Nl.left T n st) w w1) :=
          ⟨(hA.out.later hbn.out).but, (hA.out.later hbn.out).at', by have := Q1.out.1; rw [e1] at this; exact this, hA.out.few⟩
        clear CT hbn hb HAI hA KW KI kn k0 k1 e1 Q1 Q2 Q3
        go_wp2_with fail
        go_roundw
        case rel => exact ⟨k + 1, _, by omega, by go_num, hA3, hb2⟩
        case measure => simp [intOf]; omega
    · have e : k = g.rules.length := by omega
      subst e
      have hA3 : Hid (AInv6 T n N I C (n - T) g.rules (fun _ => False) st' (Nl.left T n st) w wr) := ⟨hA.out.but, hA.out.at', hA.out.inv.again, hA.out.few⟩
      clear hA
      go_wp2_with fail
      go_end0
      exact ⟨rfl, st', hA3⟩
end Go.Proofs.Ytdocbgfpnaiijaa

namespace Go.Proofs.Ytdocbgfpnaiijaa
open Go.RowKit Go.Conc

/-- what holds of memory while begun goes -/
structure BInv6 (T n I C S : Nat) (g : Gr.Gm) (A : GA) (k : Nat) (st : Nl.St) (w wr : World) : Prop where
  below : Below w.heap.size w wr
  lt : w.heap.size + 2 ≤ I ∧ w.heap.size + 2 ≤ C
  at' : SAt I C (n - T) st wr
  inv : Nl.Inv T n g.rules (· ∈ g.rules.drop k) st
  sb : wr.heap[S]? = some (.cells (schCells g A I n C) 86 (0, 0))
  rb : wr.heap[w.heap.size + 1]? = some (.cells #[.slice none 0 0, .slice none 0 0, .slice none 0 0, .slice none 0 0, .chan none] 86 (0, 0))

theorem BInv6.later {T n I C S : Nat} {g : Gr.Gm} {A : GA} {k : Nat} {st : Nl.St} {w wr w' : World} (h : BInv6 T n I C S g A k st w wr) (hb : Below wr.heap.size wr w') : BInv6 T n I C S g A k st w w' :=
  ⟨h.below.trans (hb.mono h.below.size), h.lt, h.at'.later hb, h.inv, (hb.block _ (Array.getElem?_eq_some_iff.1 h.sb).1).trans h.sb, (hb.block _ (Array.getElem?_eq_some_iff.1 h.rb).1).trans h.rb⟩
theorem BInv6.ne {T n I C S : Nat} {g : Gr.Gm} {A : GA} {k : Nat} {st : Nl.St} {w wr : World} (h : BInv6 T n I C S g A k st w wr) : S ≠ I ∧ S ≠ C := by
  constructor
  · intro e; subst e
    have := h.at'.is
    rw [h.sb] at this
    exact absurd (Obj.cells.inj (Option.some.inj this)).2.1 (by decide)
  · intro e; subst e
    obtain ⟨_, _, hc⟩ := h.at'.ch
    rw [h.sb] at hc
    cases hc

set_option maxRecDepth 100000 in
set_option maxHeartbeats 3200000 in
theorem begun_any (g : Gr.Gm) (A : GA) (n : Nat) (w : World) (hn : n = g.terms.length + g.names.length) (h4 : n ≤ 4000) (hf : Nl.Fit g.terms.length n g.rules) (hG : RlsAt w.heap.size w A.ra g.rules) (hrc : g.rules.length ≤ 4000) (h8 : ∀ r ∈ g.rules, r.2.length ≤ 4000) :
    Calls Try.prog 54 #[.agg (gmCells g A)] w fun e w' => ∃ I C st, e = .returned (.agg (schCells g A I n C)) ∧ w.heap.size ≤ I ∧ w.heap.size ≤ C ∧ Hid (Below w.heap.size w w') ∧ Hid (SAt I C (n - g.terms.length) st w') ∧ Hid (Nl.Inv g.terms.length n g.rules (fun _ => False) st) := by
  subst hn
  obtain ⟨ta, tc, na, nc, ra, rac⟩ := A
  have HG : Hid (RlsAt w.heap.size w ra g.rules) := hG
  have H8 : Hid _ := h8
  have HF : Hid _ := hf
  have hT : g.terms.length + g.names.length - g.terms.length = g.names.length := by omega
  have HAI : Hid (∀ (I C : Nat) (st : Nl.St) (r : Gr.Rl) (ro : Option Addr) (rc : Nat) (W : World), SAt I C (g.terms.length + g.names.length - g.terms.length) st W → IntsAt W.heap.size W ro r.2 → r.2.length ≤ 4000 → (0 ≤ r.1 ∧ r.1 < st.is.length) → st.is.length = g.terms.length + g.names.length → (Nl.isAt st.is r.1 = false ∧ Nl.allIn st.is r.2 = true → st.q.length < g.terms.length + g.names.length - g.terms.length) →
      Calls Try.prog 79 #[.agg (schCells g ⟨ta, tc, na, nc, ra, rac⟩ I (g.terms.length + g.names.length) C), .agg #[.int .i64 r.1, .slice ro r.2.length rc]] W fun e w' => e = .returned (.tuple #[]) ∧ Hid (But I C W w') ∧ Hid (SAt I C (g.terms.length + g.names.length - g.terms.length) (Nl.ask st r) w')) :=
    fun I C st r ro rc W h1 h2 h3 h4 h5 h6 => ask_any st g _ _ I C _ r ro rc W h1 h2 h3 h4 h5 h6
  have hmb := make_bools6 g.terms.length g.names.length h4
  have hmc := make_chan6 g.names.length (by omega)
  have hwr : IntKind.wrap .i64 ((g.terms.length : Int) + (g.names.length : Int)) = (g.terms.length : Int) + (g.names.length : Int) := by rw [IntKind.wrap_i64]; omega
  clear hG h8 hf
  simp only [gmCells]
  go_enter Try.func54, Try.ntmps54
  go_wp2_with fail
  have hB : Hid (Below w.heap.size w ((w.alloc (Obj.cells #[.slice ta g.terms.length tc, .slice na g.names.length nc, .slice ra g.rules.length rac] 25)).alloc (Obj.cells #[.slice none 0 0, .slice none 0 0, .slice none 0 0, .slice none 0 0, .chan none] 86))) := ((Below.refl _ w).alloc (Nat.le_refl _) _).alloc (by simp) _
  have b0 : Hid (((w.alloc (Obj.cells #[.slice ta g.terms.length tc, .slice na g.names.length nc, .slice ra g.rules.length rac] 25)).alloc (Obj.cells #[.slice none 0 0, .slice none 0 0, .slice none 0 0, .slice none 0 0, .chan none] 86)).heap[w.heap.size]? = some (.cells #[.slice ta g.terms.length tc, .slice na g.names.length nc, .slice ra g.rules.length rac] 25 (0, 0))) := by
    show _ = _; rw [Below.heap_alloc _ _ _ (by simp)]; exact heap_alloc_new w _
  have b1 : Hid (((w.alloc (Obj.cells #[.slice ta g.terms.length tc, .slice na g.names.length nc, .slice ra g.rules.length rac] 25)).alloc (Obj.cells #[.slice none 0 0, .slice none 0 0, .slice none 0 0, .slice none 0 0, .chan none] 86)).heap[w.heap.size + 1]? = some (.cells #[.slice none 0 0, .slice none 0 0, .slice none 0 0, .slice none 0 0, .chan none] 86 (0, 0))) := by
    show _ = _
    have := heap_alloc_new (w.alloc (Obj.cells #[.slice ta g.terms.length tc, .slice na g.names.length nc, .slice ra g.rules.length rac] 25)) (Obj.cells #[.slice none 0 0, .slice none 0 0, .slice none 0 0, .slice none 0 0, .chan none] 86)
    simpa using this
  have hWs : Hid (((w.alloc (Obj.cells #[.slice ta g.terms.length tc, .slice na g.names.length nc, .slice ra g.rules.length rac] 25)).alloc (Obj.cells #[.slice none 0 0, .slice none 0 0, .slice none 0 0, .slice none 0 0, .chan none] 86)).heap.size = w.heap.size + 2) := by show _ = _; simp
  generalize ((w.alloc (Obj.cells #[.slice ta g.terms.length tc, .slice na g.names.length nc, .slice ra g.rules.length rac] 25)).alloc (Obj.cells #[.slice none 0 0, .slice none 0 0, .slice none 0 0, .slice none 0 0, .chan none] 86)) = W at *
  have HS : Hid (∀ w1 : World, Lat W.drew w1 → Below w.heap.size w w1 ∧ w.heap.size + 2 ≤ w1.heap.size ∧ Below W.heap.size W w1) := fun w1 hL => by
    have h := hL.of_drew
    exact ⟨hB.out.trans (Below.mono h hB.out.size), by have := h.size; rw [hWs.out] at this; exact this, h⟩
  have HC : Hid (∀ w1 : World, Lat W.drew w1 → w1.cell? ⟨w.heap.size, 0, none⟩ = some (.slice ta g.terms.length tc) ∧ w1.cell? ⟨w.heap.size, 1, none⟩ = some (.slice na g.names.length nc) ∧ w1.cell? ⟨w.heap.size, 2, none⟩ = some (.slice ra g.rules.length rac)) := fun w1 hL => by
    have h := cells_three_z (((HS.out w1 hL).2.2.block _ (by rw [hWs.out]; omega)).trans b0.out)
    exact ⟨h.1, h.2.1, h.2.2.1⟩
  refine wp_region_lat [.val (.agg #[.slice ta g.terms.length tc, .slice na g.names.length nc, .slice ra g.rules.length rac]), .val (.pointer (some ⟨w.heap.size, 0, none⟩)), .val (.slice ta g.terms.length tc), .val (.int .i64 g.terms.length), .val (.pointer (some ⟨w.heap.size, 1, none⟩)), .val (.slice na g.names.length nc), .val (.int .i64 g.names.length), .val (.int .i64 ((g.terms.length : Int) + (g.names.length : Int))),
    .fact (fun v w' => ∃ I, v = .slice (some ⟨I, 0, none⟩) (g.terms.length + g.names.length) (g.terms.length + g.names.length) ∧ w.heap.size + 2 ≤ I ∧ w'.heap[I]? = some (.cells (Array.replicate (g.terms.length + g.names.length) (Value.bool false)) 4 (0, 0))),
    .val (.pointer (some ⟨w.heap.size, 1, none⟩)), .val (.slice na g.names.length nc), .val (.int .i64 g.names.length),
    .fact (fun v w' => ∃ C, v = .chan (some C) ∧ w.heap.size + 2 ≤ C ∧ w'.heap[C]? = some (.chan g.names.length #[] false 0 0 false)),
    .fact (fun v w' => ∃ I C, v = .agg #[.slice ta g.terms.length tc, .slice na g.names.length nc, .slice ra g.rules.length rac, .slice (some ⟨I, 0, none⟩) (g.terms.length + g.names.length) (g.terms.length + g.names.length), .chan (some C)] ∧ (w.heap.size + 2 ≤ I ∧ w.heap.size + 2 ≤ C) ∧ w'.heap[I]? = some (.cells (Array.replicate (g.terms.length + g.names.length) (Value.bool false)) 4 (0, 0)) ∧ w'.heap[C]? = some (.chan g.names.length #[] false 0 0 false)),
    .fact (fun v w' => ∃ b, v = .pointer (some ⟨b, 0, none⟩) ∧ w.heap.size + 2 ≤ b ∧ w'.heap[b]? = some (.cells #[.slice none 0 0, .slice none 0 0, .slice none 0 0, .slice none 0 0, .chan none] 86 (0, 0)))] [_] (by kernel_rfl) (by kernel_rfl) rfl ?kept ?walk
  case kept =>
    have kp : ∀ {b : Nat} {o : Obj} {w1 w2 : World}, Lat w1 w2 → w1.heap[b]? = some o → w2.heap[b]? = some o := fun hL h => by rw [hL.block _ (Array.getElem?_eq_some_iff.1 h).1]; exact h
    exact ⟨fun v w1 w2 hL ⟨I, e, h1, h2⟩ => ⟨I, e, h1, kp hL h2⟩, fun v w1 w2 hL ⟨C, e, h1, h2⟩ => ⟨C, e, h1, kp hL h2⟩, fun v w1 w2 hL ⟨I, C, e, h1, h2, h3⟩ => ⟨I, C, e, h1, kp hL h2, kp hL h3⟩, fun v w1 w2 hL ⟨b, e, h1, h2⟩ => ⟨b, e, h1, kp hL h2⟩, trivial⟩
  case walk =>
    refine wpFacts_val (by rfl) (fun w1 hL hd K hK => ?_) ?_
    · obtain ⟨c0, c1, c2⟩ := HC.out w1 hL
      go_simp
      exact hK _ (Lat.refl _)
    refine wpFacts_norm (by simp only [Act.put, List.setIfInBounds_toArray, List.set_cons_zero, List.set_cons_succ]; rfl) (by simp only [List.nil_append]; rfl) ?_
    refine wpFacts_val (by rfl) (fun w1 hL hd K hK => ?_) ?_
    · go_simp
      exact hK _ (Lat.refl _)
    refine wpFacts_norm (by simp only [Act.put, List.setIfInBounds_toArray, List.set_cons_zero, List.set_cons_succ]; rfl) (by simp only [List.cons_append, List.nil_append]; rfl) ?_
    refine wpFacts_val (by rfl) (fun w1 hL hd K hK => ?_) ?_
    · obtain ⟨c0, c1, c2⟩ := HC.out w1 hL
      go_simp
      exact hK _ (Lat.refl _)
    refine wpFacts_norm (by simp only [Act.put, List.setIfInBounds_toArray, List.set_cons_zero, List.set_cons_succ]; rfl) (by simp only [List.cons_append, List.nil_append]; rfl) ?_
    refine wpFacts_val (by rfl) (fun w1 hL hd K hK => ?_) ?_
    · go_simp
      exact hK _ (Lat.refl _)
    refine wpFacts_norm (by simp only [Act.put, List.setIfInBounds_toArray, List.set_cons_zero, List.set_cons_succ]; rfl) (by simp only [List.cons_append, List.nil_append]; rfl) ?_
    refine wpFacts_val (by rfl) (fun w1 hL hd K hK => ?_) ?_
    · go_simp
      exact hK _ (Lat.refl _)
    refine wpFacts_norm (by simp only [Act.put, List.setIfInBounds_toArray, List.set_cons_zero, List.set_cons_succ]; rfl) (by simp only [List.cons_append, List.nil_append]; rfl) ?_
    refine wpFacts_val (by rfl) (fun w1 hL hd K hK => ?_) ?_
    · obtain ⟨c0, c1, c2⟩ := HC.out w1 hL
      go_simp
      exact hK _ (Lat.refl _)
    refine wpFacts_norm (by simp only [Act.put, List.setIfInBounds_toArray, List.set_cons_zero, List.set_cons_succ]; rfl) (by simp only [List.cons_append, List.nil_append]; rfl) ?_
    refine wpFacts_val (by rfl) (fun w1 hL hd K hK => ?_) ?_
    · go_simp
      exact hK _ (Lat.refl _)
    refine wpFacts_norm (by simp only [Act.put, List.setIfInBounds_toArray, List.set_cons_zero, List.set_cons_succ]; rfl) (by simp only [List.cons_append, List.nil_append]; rfl) ?_
    refine wpFacts_val (by rfl) (fun w1 hL hd K hK => ?_) ?_
    · go_simp
      exact hK _ (Lat.refl _)
    refine wpFacts_norm (by simp only [Act.put, List.setIfInBounds_toArray, List.set_cons_zero, List.set_cons_succ]; rfl) (by simp only [List.cons_append, List.nil_append]; rfl) ?_
    refine wpFacts_fact (by rfl) (fun w1 hL hd K hK => ?_) (fun v8 => ?_)
    · go_simp
      exact hK _ _ (Below.alloc (Below.refl _ _) (Nat.le_refl _) _) ⟨_, rfl, (HS.out w1 hL).2.1, heap_alloc_new _ _⟩
    refine wpFacts_norm (by simp only [Act.put, List.setIfInBounds_toArray, List.set_cons_zero, List.set_cons_succ]; rfl) (by simp only [List.cons_append, List.nil_append]; rfl) ?_
    refine wpFacts_val (by rfl) (fun w1 hL hd K hK => ?_) ?_
    · go_simp
      exact hK _ (Lat.refl _)
    refine wpFacts_norm (by simp only [Act.put, List.setIfInBounds_toArray, List.set_cons_zero, List.set_cons_succ]; rfl) (by simp only [List.cons_append, List.nil_append]; rfl) ?_
    refine wpFacts_val (by rfl) (fun w1 hL hd K hK => ?_) ?_
    · obtain ⟨c0, c1, c2⟩ := HC.out w1 hL
      go_simp
      exact hK _ (Lat.refl _)
    refine wpFacts_norm (by simp only [Act.put, List.setIfInBounds_toArray, List.set_cons_zero, List.set_cons_succ]; rfl) (by simp only [List.cons_append, List.nil_append]; rfl) ?_
    refine wpFacts_val (by rfl) (fun w1 hL hd K hK => ?_) ?_
    · go_simp
      exact hK _ (Lat.refl _)
    refine wpFacts_norm (by simp only [Act.put, List.setIfInBounds_toArray, List.set_cons_zero, List.set_cons_succ]; rfl) (by simp only [List.cons_append, List.nil_append]; rfl) ?_
    refine wpFacts_fact (by rfl) (fun w1 hL hd K hK => ?_) (fun v12 => ?_)
    · go_simp
      exact hK _ _ (Below.alloc (Below.refl _ _) (Nat.le_refl _) _) ⟨_, rfl, (HS.out w1 hL).2.1, heap_alloc_new _ _⟩
    refine wpFacts_norm (by simp only [Act.put, List.setIfInBounds_toArray, List.set_cons_zero, List.set_cons_succ]; rfl) (by simp only [List.cons_append, List.nil_append]; rfl) ?_
    refine wpFacts_fact (by rfl) (fun w1 hL hd K hK => ?_) (fun v13 => ?_)
    · obtain ⟨I, rfl, i1, i2⟩ : ∃ I, v8 = .slice (some ⟨I, 0, none⟩) (g.terms.length + g.names.length) (g.terms.length + g.names.length) ∧ w.heap.size + 2 ≤ I ∧ w1.heap[I]? = some (.cells (Array.replicate (g.terms.length + g.names.length) (Value.bool false)) 4 (0, 0)) := hd.2.1
      obtain ⟨C, rfl, j1, j2⟩ : ∃ C, v12 = .chan (some C) ∧ w.heap.size + 2 ≤ C ∧ w1.heap[C]? = some (.chan g.names.length #[] false 0 0 false) := hd.2.2.1
      have IJ : Hid (w1.heap[I]? = some (.cells (Array.replicate (g.terms.length + g.names.length) (Value.bool false)) 4 (0, 0)) ∧ w1.heap[C]? = some (.chan g.names.length #[] false 0 0 false)) := ⟨i2, j2⟩
      clear i2 j2
      go_simp
      exact hK _ _ (Lat.refl _) ⟨I, C, rfl, ⟨i1, j1⟩, IJ.out⟩
    refine wpFacts_norm (by simp only [Act.put, List.setIfInBounds_toArray, List.set_cons_zero, List.set_cons_succ]; rfl) (by simp only [List.cons_append, List.nil_append]; rfl) ?_
    refine wpFacts_fact (by rfl) (fun w1 hL hd K hK => ?_) (fun v14 => ?_)
    · go_simp
      exact hK _ _ (Below.alloc (Below.refl _ _) (Nat.le_refl _) _) ⟨_, rfl, (HS.out w1 hL).2.1, heap_alloc_new _ _⟩
    refine wpFacts_norm (by simp only [Act.put, List.setIfInBounds_toArray, List.set_cons_zero, List.set_cons_succ]; rfl) (by simp only [List.cons_append, List.nil_append]; rfl) ?_
    intro w1 hL ha
    obtain ⟨I, C, rfl, hIC, i2, j2⟩ : ∃ I C, v13 = .agg #[.slice ta g.terms.length tc, .slice na g.names.length nc, .slice ra g.rules.length rac, .slice (some ⟨I, 0, none⟩) (g.terms.length + g.names.length) (g.terms.length + g.names.length), .chan (some C)] ∧ (w.heap.size + 2 ≤ I ∧ w.heap.size + 2 ≤ C) ∧ w1.heap[I]? = some (.cells (Array.replicate (g.terms.length + g.names.length) (Value.bool false)) 4 (0, 0)) ∧ w1.heap[C]? = some (.chan g.names.length #[] false 0 0 false) := allHold_get 13 ha rfl rfl
    obtain ⟨b, rfl, hbM, hbk⟩ : ∃ b, v14 = .pointer (some ⟨b, 0, none⟩) ∧ w.heap.size + 2 ≤ b ∧ w1.heap[b]? = some (.cells #[.slice none 0 0, .slice none 0 0, .slice none 0 0, .slice none 0 0, .chan none] 86 (0, 0)) := allHold_get 14 ha rfl rfl
    clear ha
    have HI : Hid (BInv6 g.terms.length (g.terms.length + g.names.length) I C b g ⟨ta, tc, na, nc, ra, rac⟩ 0 ⟨List.replicate (g.terms.length + g.names.length) false, []⟩ w (((((w1.setCell ⟨b, 0, none⟩ (.slice ta g.terms.length tc)).setCell ⟨b, 1, none⟩ (.slice na g.names.length nc)).setCell ⟨b, 2, none⟩ (.slice ra g.rules.length rac)).setCell ⟨b, 3, none⟩ (.slice (some ⟨I, 0, none⟩) (g.terms.length + g.names.length) (g.terms.length + g.names.length))).setCell ⟨b, 4, none⟩ (.chan (some C)))) := by
      have hs : ∀ k, k ≠ b → (((((w1.setCell ⟨b, 0, none⟩ (.slice ta g.terms.length tc)).setCell ⟨b, 1, none⟩ (.slice na g.names.length nc)).setCell ⟨b, 2, none⟩ (.slice ra g.rules.length rac)).setCell ⟨b, 3, none⟩ (.slice (some ⟨I, 0, none⟩) (g.terms.length + g.names.length) (g.terms.length + g.names.length))).setCell ⟨b, 4, none⟩ (.chan (some C))).heap[k]? = w1.heap[k]? := fun k hk => by
        rw [Below.heap_setCell _ _ _ _ hk, Below.heap_setCell _ _ _ _ hk, Below.heap_setCell _ _ _ _ hk, Below.heap_setCell _ _ _ _ hk, Below.heap_setCell _ _ _ _ hk]
      have nI : I ≠ b := fun e => by
        subst e; rw [i2] at hbk
        exact absurd (Obj.cells.inj (Option.some.inj hbk)).2.1 (by decide)
      have nC : C ≠ b := fun e => by
        subst e; rw [j2] at hbk; cases hbk
      have hh := HS.out w1 hL
      refine ⟨?_, hIC, ⟨?_, 0, 0, ?_⟩, ?_, gset5 hbk, ?_⟩
      · exact ((((hh.1.setCell (by show w.heap.size ≤ b; omega) _).setCell (by show w.heap.size ≤ b; omega) _).setCell (by show w.heap.size ≤ b; omega) _).setCell (by show w.heap.size ≤ b; omega) _).setCell (by show w.heap.size ≤ b; omega) _
      · rw [hs _ nI, i2]; simp
      · rw [hs _ nC, j2, hT]; simp
      · exact Nl.Inv.start
      · rw [hs _ (by omega), hh.2.2.block _ (by rw [hWs.out]; omega)]; exact b1.out
    have hgb : Hid ((((((w1.setCell ⟨b, 0, none⟩ (.slice ta g.terms.length tc)).setCell ⟨b, 1, none⟩ (.slice na g.names.length nc)).setCell ⟨b, 2, none⟩ (.slice ra g.rules.length rac)).setCell ⟨b, 3, none⟩ (.slice (some ⟨I, 0, none⟩) (g.terms.length + g.names.length) (g.terms.length + g.names.length))).setCell ⟨b, 4, none⟩ (.chan (some C))).cell? ⟨w.heap.size, 2, none⟩ = some (.slice ra g.rules.length rac)) := by
      have hc := (HC.out w1 hL).2.2
      show _ = _
      have hs : ∀ (x : World) (o : Nat) (v : Value), (x.setCell ⟨b, o, none⟩ v).cell? ⟨w.heap.size, 2, none⟩ = x.cell? ⟨w.heap.size, 2, none⟩ := fun x o v => by
        simp only [World.cell?]
        have hne : w.heap.size ≠ b := by omega
        rw [Below.heap_setCell _ _ _ _ hne]
      rw [hs, hs, hs, hs, hs]; exact hc
    obtain ⟨⟨c0, c1, c2, c3, c4⟩, z0, z1, z2, z3, z4⟩ := cells_five_z hbk
    have hbl := (Array.getElem?_eq_some_iff.1 hbk).1
    clear i2 j2 hbk hL HS HC b0 b1 hWs hB hmb hmc hwr
    go_upto_region 2 with fail
    generalize (((((w1.setCell ⟨b, 0, none⟩ (.slice ta g.terms.length tc)).setCell ⟨b, 1, none⟩ (.slice na g.names.length nc)).setCell ⟨b, 2, none⟩ (.slice ra g.rules.length rac)).setCell ⟨b, 3, none⟩ (.slice (some ⟨I, 0, none⟩) (g.terms.length + g.names.length) (g.terms.length + g.names.length))).setCell ⟨b, 4, none⟩ (.chan (some C))) = W2 at *
    have g2 := hgb.out
    clear c0 c1 c2 c3 c4 z0 z1 z2 z3 z4 hbl hgb
    go_wp2_with fail
    go_loopw [23] (fun i wr => ∃ (k : Nat) (st : Nl.St), k ≤ g.rules.length ∧ i = .int .i64 k ∧ Hid (BInv6 g.terms.length (g.terms.length + g.names.length) I C b g ⟨ta, tc, na, nc, ra, rac⟩ k st w wr)) (fun i _ => g.rules.length - (intOf i).toNat)
    case atStart => exact ⟨0, _, Nat.zero_le _, rfl, HI⟩
    case round =>
      obtain ⟨k, st, hk, rfl, hA⟩ := hrel
      clear HI g2
      by_cases hkl : k < g.rules.length
      · obtain ⟨rb, ro, xo, xc, rfl, _, _, k0, k1, ki, _⟩ := (HG.out.later hA.out.below) k hkl
        have hm : g.rules[k] ∈ g.rules := List.getElem_mem hkl
        have h8 := H8.out _ hm
        have KI : Hid (IntsAt w.heap.size wr xo g.rules[k].2) := ki
        have Q1 : Hid _ := hA.out.inv.beginStep HF.out hkl
        have Q2 : Hid _ := hA.out.inv.ask HF.out hm
        have Q3 : Hid _ := HF.out.left _ hm
        clear ki hm
        generalize g.rules[k] = y at *
        obtain ⟨l, rs⟩ := y
        simp only at k0 k1 h8
        have hbn : Hid (Below wr.heap.size wr (wr.alloc (Obj.cells #[.int .i64 l, .slice xo rs.length xc] 31))) := (Below.refl _ wr).alloc (Nat.le_refl _) _
        have kn : Hid ((wr.alloc (Obj.cells #[.int .i64 l, .slice xo rs.length xc] 31)).heap[wr.heap.size]? = some (.cells #[.int .i64 l, .slice xo rs.length xc] 31 (0, 0))) := heap_alloc_new wr _
        have hA2 : Hid _ := hA.out.later hbn.out
        have KW : Hid (IntsAt (wr.alloc (Obj.cells #[.int .i64 l, .slice xo rs.length xc] 31)).heap.size (wr.alloc (Obj.cells #[.int .i64 l, .slice xo rs.length xc] 31)) xo rs) := (KI.out.later (hbn.out.mono hA.out.below.size)).size
        have hsb := hA.out.sb
        simp only [schCells] at hsb
        obtain ⟨⟨c0, c1, c2, c3, c4⟩, _⟩ := cells_five_z hsb
        have hbl := (Array.getElem?_eq_some_iff.1 hsb).1
        have HAS : Hid _ := HAI.out I C st (l, rs) xo xc _ hA2.out.at' KW.out h8 ⟨by have := Q3.out; omega, by rw [hA2.out.inv.len]; exact Q3.out.2⟩ hA2.out.inv.len Q2.out.2.2
        simp only [schCells] at HAS
        clear hsb
        go_wp2_with (go_at_call 79; fail)
        generalize (wr.alloc (Obj.cells #[.int .i64 l, .slice xo rs.length xc] 31)) = W3 at *
        refine Calls.mono HAS.out ?_
        rintro e w3 ⟨rfl, hbt, hs3⟩
        have hA3 : Hid (BInv6 g.terms.length (g.terms.length + g.names.length) I C b g ⟨ta, tc, na, nc, some ⟨rb, ro, none⟩, rac⟩ (k + 1) (Nl.ask st (l, rs)) w w3) := by
          have hn := hA2.out.ne
          have hl := hA2.out.lt
          refine ⟨hA2.out.below.trans (hbt.out.below (by omega) (by omega) hA2.out.below.size), hl, hs3.out, Q1.out, ?_, ?_⟩
          · exact (hbt.out.block _ (Array.getElem?_eq_some_iff.1 hA2.out.sb).1 hn.1 hn.2).trans hA2.out.sb
          · exact (hbt.out.block _ (Array.getElem?_eq_some_iff.1 hA2.out.rb).1 (by omega) (by omega)).trans hA2.out.rb
        clear hA2 hA hs3 hbt hbn HAS KW KI kn k0 k1 Q1 Q2 Q3 c0 c1 c2 c3 c4
        go_wp2_with fail
        go_roundw
        case rel => exact ⟨k + 1, _, by omega, by go_num, hA3⟩
        case measure => simp [intOf]; omega
      · have e : k = g.rules.length := by omega
        subst e
        have hA3 : Hid (Nl.Inv g.terms.length (g.terms.length + g.names.length) g.rules (fun _ => False) st) := hA.out.inv.begun
        have hsb := hA.out.sb
        simp only [schCells] at hsb
        obtain ⟨⟨c0, c1, c2, c3, c4⟩, _⟩ := cells_five_z hsb
        obtain ⟨⟨d0, d1, d2, d3, d4⟩, z0, z1, z2, z3, z4⟩ := cells_five_z hA.out.rb
        have hbl := (Array.getElem?_eq_some_iff.1 hsb).1
        have hbl2 := (Array.getElem?_eq_some_iff.1 hA.out.rb).1
        clear hsb
        go_wp2_with fail
        have k5 := gset5 (x := .slice ta g.terms.length tc) (y := .slice na g.names.length nc) (z := .slice ra g.rules.length rac) (u := .slice (some ⟨I, 0, none⟩) (g.terms.length + g.names.length) (g.terms.length + g.names.length)) (v := .chan (some C)) hA.out.rb
        have hb5 : Hid (But (w.heap.size + 1) (w.heap.size + 1) wr (((((wr.setCell ⟨w.heap.size + 1, 0, none⟩ (.slice ta g.terms.length tc)).setCell ⟨w.heap.size + 1, 1, none⟩ (.slice na g.names.length nc)).setCell ⟨w.heap.size + 1, 2, none⟩ (.slice ra g.rules.length rac)).setCell ⟨w.heap.size + 1, 3, none⟩ (.slice (some ⟨I, 0, none⟩) (g.terms.length + g.names.length) (g.terms.length + g.names.length))).setCell ⟨w.heap.size + 1, 4, none⟩ (.chan (some C)))) :=
          (((((But.refl _ _ wr).setCell _ _).setCell _ _).setCell _ _).setCell _ _).setCell _ _
        generalize (((((wr.setCell ⟨w.heap.size + 1, 0, none⟩ (.slice ta g.terms.length tc)).setCell ⟨w.heap.size + 1, 1, none⟩ (.slice na g.names.length nc)).setCell ⟨w.heap.size + 1, 2, none⟩ (.slice ra g.rules.length rac)).setCell ⟨w.heap.size + 1, 3, none⟩ (.slice (some ⟨I, 0, none⟩) (g.terms.length + g.names.length) (g.terms.length + g.names.length))).setCell ⟨w.heap.size + 1, 4, none⟩ (.chan (some C))) = W5 at *
        obtain ⟨⟨e0, e1, e2, e3, e4⟩, _⟩ := cells_five_z k5
        have hb6 : Below w.heap.size w W5 := hA.out.below.trans (hb5.out.below (by omega) (by omega) hA.out.below.size)
        have hl := hA.out.lt
        have hs6 : SAt I C (g.terms.length + g.names.length - g.terms.length) st W5 := by
          obtain ⟨s, r, hc⟩ := hA.out.at'.ch
          exact ⟨(hb5.out.block _ hA.out.at'.lt.1 (by omega) (by omega)).trans hA.out.at'.is, s, r, (hb5.out.block _ hA.out.at'.lt.2 (by omega) (by omega)).trans hc⟩
        refine bodyPost_ret (v := .agg (schCells g ⟨ta, tc, na, nc, ra, rac⟩ I (g.terms.length + g.names.length) C)) (by simp [results, Try.results54, go_sem, schCells, e0, e1, e2, e3, e4]) rfl ⟨I, C, st, rfl, by omega, by omega, hb6, hs6, hA3⟩
end Go.Proofs.Ytdocbgfpnaiijaa
