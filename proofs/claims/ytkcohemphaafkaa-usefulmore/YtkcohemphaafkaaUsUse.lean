/-
  Layer 7 (useful): what is done of a symbol that is looked at (the two closures); reach, Productive.
  Layer 7 (useful): reach, Reach, Productive.
  Layer 7 (useful): rulesOf, Useful.
-/
import Derived.Test.YtkcohemphaafkaaUsMath2
import Derived.Test.YtkcohemphaafkaaUsSearch
import Derived.Test.YtkcohemphaafkaaGrOf
namespace Go.Proofs.Ytkcohemphaafkaa
open Go.RowKit Go.Conc

theorem sch_ne {n I C B : Nat} {st : Nl.St} {w : World} (hS : SAt I C n st w) {cs : Array Value} (hB : w.heap[B]? = some (.cells cs 51 (0, 0))) : B ≠ I ∧ B ≠ C := by
  constructor
  · intro e; subst e
    have := hS.is
    rw [hB] at this
    exact absurd (Obj.cells.inj (Option.some.inj this)).2.1 (by decide)
  · intro e; subst e
    obtain ⟨_, _, hc⟩ := hS.ch
    rw [hB] at hc
    cases hc

theorem rm_lookR {n : Nat} {x : Int} (rs : List Gr.Rl) (hin : ∀ r ∈ rs, ∀ y ∈ r.2, 0 ≤ y ∧ y < (n : Int)) {st : Nl.St} (h : Us.Rm n st) : Us.Rm n (rs.foldl (Us.lookR1 x) st) := by
  induction rs generalizing st with
  | nil => exact h
  | cons r rs ih =>
    refine ih (fun r' hr' => hin r' (List.mem_cons_of_mem _ hr')) ?_
    unfold Us.lookR1
    split
    · exact h.finds (hin r (List.mem_cons_self ..))
    · exact h
theorem rm_asks {n : Nat} (f : Nl.St → Gr.Rl → Nl.St) (hf : ∀ s r, f s r = Nl.ask s r ∨ f s r = s) (rs : List Gr.Rl) (hin : ∀ r ∈ rs, 0 ≤ r.1 ∧ r.1 < (n : Int)) {st : Nl.St} (h : Us.Rm n st) : Us.Rm n (rs.foldl f st) := by
  induction rs generalizing st with
  | nil => exact h
  | cons r rs ih =>
    refine ih (fun r' hr' => hin r' (List.mem_cons_of_mem _ hr')) ?_
    rcases hf st r with e | e
    · rw [e]; exact h.ask (hin r (List.mem_cons_self ..))
    · rw [e]; exact h
theorem askIf_or (x : Int) (s : Nl.St) (r : Gr.Rl) : Nl.askIf x s r = Nl.ask s r ∨ Nl.askIf x s r = s := by
  unfold Nl.askIf; split
  · exact .inl rfl
  · exact .inr rfl

set_option maxRecDepth 100000 in
set_option maxHeartbeats 3200000 in
theorem lookR_any (rs : List Gr.Rl) (n M I C A B : Nat) (ra : Option Addr) (rac : Nat) (x : Int) (st : Nl.St) (w : World) (hM : M ≤ I ∧ M ≤ C) (hG : RlsAt M w ra rs) (hrc : rs.length ≤ 4000) (h8 : ∀ r ∈ rs, r.2.length ≤ 4000) (hin : ∀ r ∈ rs, ∀ y ∈ r.2, 0 ≤ y ∧ y < (n : Int))
    (hA : w.heap[A]? = some (.cells #[.slice ra rs.length rac] 23 (0, 0))) (hB : w.heap[B]? = some (.cells #[.slice (some ⟨I, 0, none⟩) n n, .chan (some C)] 51 (0, 0))) (hS : SAt I C n st w) (hm : Us.Rm n st) :
    Calls Try.prog 47 #[.int .i64 x, .pointer (some ⟨A, 0, none⟩), .pointer (some ⟨B, 0, none⟩)] w fun e w' => e = .returned (.tuple #[]) ∧ Hid (But I C w w') ∧ Hid (SAt I C n (Us.lookR rs x st) w') := by
  have hlt := hS.lt
  have hMw : M ≤ w.heap.size := by omega
  have HG : Hid (RlsAt M w ra rs) := hG
  have H8 : Hid _ := h8
  have HIN : Hid _ := hin
  have HMM : Hid _ := hM
  have HM : Hid _ := hm
  have S0 : Hid (SAt I C n ((rs.take 0).foldl (Us.lookR1 x) st) w) := hS
  have b0 : Hid (w.heap[B]? = some (.cells #[.slice (some ⟨I, 0, none⟩) n n, .chan (some C)] 51 (0, 0))) := hB
  have HB0 : Hid (But I C w w) := But.refl _ _ _
  have a0 : w.cell? ⟨A, 0, none⟩ = some (.slice ra rs.length rac) := by simp [World.cell?, hA]
  have HA : Hid _ := hA
  clear hG h8 hin hM hm hS hB hA
  go_enter Try.func47, Try.ntmps47
  go_wp2_with fail
  clear a0 HA
  go_loopw [8] (fun i wr => ∃ k : Nat, k ≤ rs.length ∧ i = .int .i64 k ∧ Hid (SAt I C n ((rs.take k).foldl (Us.lookR1 x) st) wr) ∧ Hid (But I C w wr) ∧ Hid (wr.heap[B]? = some (.cells #[.slice (some ⟨I, 0, none⟩) n n, .chan (some C)] 51 (0, 0)))) (fun i _ => rs.length - (intOf i).toNat)
  case atStart => exact ⟨0, Nat.zero_le _, rfl, S0, HB0, b0⟩
  case round =>
    obtain ⟨k, hk, rfl, hs, hb, hbx⟩ := hrel
    clear S0 HB0 b0
    by_cases hkl : k < rs.length
    · obtain ⟨b, o, ro, rc, rfl, _, _, k0, k1, ki, _⟩ := (HG.out.later (hb.out.below HMM.out.1 HMM.out.2 hMw)) k hkl
      have hmm : rs[k] ∈ rs := List.getElem_mem hkl
      have h8 := H8.out _ hmm
      have hyn := HIN.out _ hmm
      have KI : Hid (IntsAt M wr ro rs[k].2) := ki
      have ST : Hid ((rs.take (k + 1)).foldl (Us.lookR1 x) st = Us.lookR1 x ((rs.take k).foldl (Us.lookR1 x) st) rs[k]) := Gr.take_step _ _ _ _ hkl
      have HR1 : Us.Rm n ((rs.take k).foldl (Us.lookR1 x) st) := rm_lookR _ (fun r hr => HIN.out r (List.mem_of_mem_take hr)) HM.out
      generalize (rs.take k).foldl (Us.lookR1 x) st = st1 at *
      clear ki hmm
      generalize rs[k] = y at *
      obtain ⟨l, yr⟩ := y
      simp only at k0 k1 h8 hyn KI
      have hbn : Hid (Below wr.heap.size wr (wr.alloc (Obj.cells #[.int .i64 l, .slice ro yr.length rc] 37))) := (Below.refl _ wr).alloc (Nat.le_refl _) _
      have hzb := (Array.getElem?_eq_some_iff.1 hbx.out).1
      have hMr : M ≤ wr.heap.size := Nat.le_trans hMw hb.out.size
      have hne := sch_ne hs.out hbx.out
      have hs2 : Hid _ := hs.out.later hbn.out
      have hb2 : Hid _ := hb.out.trans (But.of hbn.out)
      have hx2 : Hid _ := (hbn.out.block _ hzb).trans hbx.out
      have kn : Hid ((wr.alloc (Obj.cells #[.int .i64 l, .slice ro yr.length rc] 37)).heap[wr.heap.size]? = some (.cells #[.int .i64 l, .slice ro yr.length rc] 37 (0, 0))) := heap_alloc_new wr _
      by_cases hx : l = x
      · have FR : Hid (Calls Try.prog 48 #[.agg #[.slice (some ⟨I, 0, none⟩) n n, .chan (some C)], .agg #[.int .i64 l, .slice ro yr.length rc]] (wr.alloc (Obj.cells #[.int .i64 l, .slice ro yr.length rc] 37)) fun e w' => e = .returned (.tuple #[]) ∧ Hid (But I C (wr.alloc (Obj.cells #[.int .i64 l, .slice ro yr.length rc] 37)) w') ∧ Hid (SAt I C n (yr.foldl Us.find st1) w')) :=
          findRight_any st1 n M I C (l, yr) ro rc _ hs2.out HR1 HMM.out (KI.out.later (hbn.out.mono hMr)) h8 hyn
        have e1 : Hid (Us.lookR1 x st1 (l, yr) = yr.foldl Us.find st1) := if_pos hx
        have hd : (l == x) = true := by simp [hx]
        obtain ⟨q0, q1, _⟩ := cells_two_z hx2.out
        obtain ⟨m0, m1, _⟩ := cells_two_z kn.out
        have hzb2 := (Array.getElem?_eq_some_iff.1 hx2.out).1
        clear hx HR1 hyn
        go_wp2_with (go_at_call 48; fail)
        generalize (wr.alloc (Obj.cells #[.int .i64 l, .slice ro yr.length rc] 37)) = W2 at *
        refine Calls.mono FR.out ?_
        rintro e w3 ⟨rfl, hbt, hs3⟩
        rw [← e1.out, ← ST.out] at hs3
        have hb3 : Hid (But I C w w3) := hb2.out.trans hbt.out
        have hx3 : Hid (w3.heap[B]? = some (.cells #[.slice (some ⟨I, 0, none⟩) n n, .chan (some C)] 51 (0, 0))) := (hbt.out.block _ hzb2 hne.1 hne.2).trans hx2.out
        clear FR e1 ST hbt hb2 hx2 hs2 kn hbn hs hb hbx q0 q1 m0 m1 k0 k1 KI
        go_wp2_with fail
        go_roundw
        case rel => exact ⟨k + 1, by omega, by go_num, hs3, hb3, hx3⟩
        case measure => simp [intOf]; omega
      · have e1 : Hid (Us.lookR1 x st1 (l, yr) = st1) := if_neg hx
        have hd : (l == x) = false := by simp [hx]
        rw [e1.out] at ST
        rw [← ST.out] at hs2
        clear hx HR1 hyn
        go_wp2_with fail
        clear hs hb hbx kn hbn k0 k1 KI ST e1
        go_roundw
        case rel => exact ⟨k + 1, by omega, by go_num, hs2, hb2, hx2⟩
        case measure => simp [intOf]; omega
    · have e : k = rs.length := by omega
      subst e
      rw [List.take_length] at hs
      go_wp2_with fail
      go_end0
      exact ⟨rfl, hb, hs⟩

set_option maxRecDepth 100000 in
set_option maxHeartbeats 3200000 in
theorem lookP_any (g : Gr.Gm) (G : GA) (n M I C A B : Nat) (x : Int) (st : Nl.St) (w : World) (hM : M ≤ I ∧ M ≤ C) (hG : RlsAt M w G.ra g.rules) (hrc : g.rules.length ≤ 4000) (h8 : ∀ r ∈ g.rules, r.2.length ≤ 4000) (hlf : ∀ r ∈ g.rules, 0 ≤ r.1 ∧ r.1 < (n : Int)) (hin : ∀ r ∈ g.rules, ∀ y ∈ r.2, 0 ≤ y ∧ y < (n : Int))
    (hA : w.heap[A]? = some (.cells (gmCells g G) 25 (0, 0))) (hB : w.heap[B]? = some (.cells #[.slice (some ⟨I, 0, none⟩) n n, .chan (some C)] 51 (0, 0))) (hS : SAt I C n st w) (hm : Us.Rm n st) :
    Calls Try.prog 27 #[.int .i64 x, .pointer (some ⟨A, 0, none⟩), .pointer (some ⟨B, 0, none⟩)] w fun e w' => e = .returned (.tuple #[]) ∧ Hid (But I C w w') ∧ Hid (SAt I C n (Us.lookP g.rules x st) w') := by
  obtain ⟨ta, tc, na, nc, ra, rac⟩ := G
  simp only [gmCells] at hA hG
  have hlt := hS.lt
  have hMw : M ≤ w.heap.size := by omega
  have HG : Hid (RlsAt M w ra g.rules) := hG
  have H8 : Hid _ := h8
  have HIN : Hid _ := hin
  have HLF : Hid _ := hlf
  have HMM : Hid _ := hM
  have HM : Hid _ := hm
  have S0 : Hid (SAt I C n ((g.rules.take 0).foldl (Nl.askIf x) st) w) := hS
  have b0 : Hid (w.heap[B]? = some (.cells #[.slice (some ⟨I, 0, none⟩) n n, .chan (some C)] 51 (0, 0))) := hB
  have HB0 : Hid (But I C w w) := But.refl _ _ _
  obtain ⟨a0, a1, a2, _⟩ := cells_three_z hA
  have HA : Hid _ := hA
  clear hG h8 hin hM hm hS hB hA hlf
  go_enter Try.func27, Try.ntmps27
  go_wp2_with fail
  clear a0 a1 a2 HA
  go_loopw [9] (fun i wr => ∃ k : Nat, k ≤ g.rules.length ∧ i = .int .i64 k ∧ Hid (SAt I C n ((g.rules.take k).foldl (Nl.askIf x) st) wr) ∧ Hid (But I C w wr) ∧ Hid (wr.heap[B]? = some (.cells #[.slice (some ⟨I, 0, none⟩) n n, .chan (some C)] 51 (0, 0)))) (fun i _ => g.rules.length - (intOf i).toNat)
  case atStart => exact ⟨0, Nat.zero_le _, rfl, S0, HB0, b0⟩
  case round =>
    obtain ⟨k, hk, rfl, hs, hb, hbx⟩ := hrel
    clear S0 HB0 b0
    by_cases hkl : k < g.rules.length
    · obtain ⟨b, o, ro, rc, rfl, _, _, k0, k1, ki, _⟩ := (HG.out.later (hb.out.below HMM.out.1 HMM.out.2 hMw)) k hkl
      have hmm : g.rules[k] ∈ g.rules := List.getElem_mem hkl
      have h8 := H8.out _ hmm
      have hyn := HIN.out _ hmm
      have hyl := HLF.out _ hmm
      have KI : Hid (IntsAt M wr ro g.rules[k].2) := ki
      have ST : Hid ((g.rules.take (k + 1)).foldl (Nl.askIf x) st = Nl.askIf x ((g.rules.take k).foldl (Nl.askIf x) st) g.rules[k]) := Gr.take_step _ _ _ _ hkl
      have HR1 : Us.Rm n ((g.rules.take k).foldl (Nl.askIf x) st) := rm_asks _ (askIf_or x) _ (fun r hr => HLF.out r (List.mem_of_mem_take hr)) HM.out
      generalize (g.rules.take k).foldl (Nl.askIf x) st = st1 at *
      clear ki hmm
      generalize g.rules[k] = y at *
      obtain ⟨l, yr⟩ := y
      simp only at k0 k1 h8 hyn KI hyl
      have hbn : Hid (Below wr.heap.size wr (wr.alloc (Obj.cells #[.int .i64 l, .slice ro yr.length rc] 37))) := (Below.refl _ wr).alloc (Nat.le_refl _) _
      have hzb := (Array.getElem?_eq_some_iff.1 hbx.out).1
      have hMr : M ≤ wr.heap.size := Nat.le_trans hMw hb.out.size
      have hne := sch_ne hs.out hbx.out
      have hs2 : Hid _ := hs.out.later hbn.out
      have hb2 : Hid _ := hb.out.trans (But.of hbn.out)
      have hx2 : Hid _ := (hbn.out.block _ hzb).trans hbx.out
      have kn : Hid ((wr.alloc (Obj.cells #[.int .i64 l, .slice ro yr.length rc] 37)).heap[wr.heap.size]? = some (.cells #[.int .i64 l, .slice ro yr.length rc] 37 (0, 0))) := heap_alloc_new wr _
      have KW : Hid (IntsAt (wr.alloc (Obj.cells #[.int .i64 l, .slice ro yr.length rc] 37)).heap.size (wr.alloc (Obj.cells #[.int .i64 l, .slice ro yr.length rc] 37)) ro yr) := (KI.out.later (hbn.out.mono hMr)).size
      have CI : Hid (∀ b : Bool, decide (x ∈ yr) = b → Calls Try.prog 28 #[.slice ro yr.length rc, .int .i64 x] (wr.alloc (Obj.cells #[.int .i64 l, .slice ro yr.length rc] 37)) fun e w' => e = .returned (.bool b) ∧ w' = (wr.alloc (Obj.cells #[.int .i64 l, .slice ro yr.length rc] 37))) :=
        fun b hb => containsInt_is b yr h8 _ _ _ _ KW.out hb
      by_cases hx : x ∈ yr
      · have CT : Hid _ := CI.out true (decide_eq_true hx)
        have FR : Hid (Calls Try.prog 25 #[.agg #[.slice (some ⟨I, 0, none⟩) n n, .chan (some C)], .agg #[.int .i64 l, .slice ro yr.length rc]] (wr.alloc (Obj.cells #[.int .i64 l, .slice ro yr.length rc] 37)) fun e w' => e = .returned (.tuple #[]) ∧ Hid (But I C (wr.alloc (Obj.cells #[.int .i64 l, .slice ro yr.length rc] 37)) w') ∧ Hid (SAt I C n (Nl.ask st1 (l, yr)) w')) :=
          findLeft_any st1 n I C (l, yr) ro rc _ hs2.out HR1 KW.out h8 hyl hyn
        have e1 : Hid (Nl.askIf x st1 (l, yr) = Nl.ask st1 (l, yr)) := if_pos hx
        clear CI hx HR1 hyn hyl
        go_wp2_with (go_at_call 28; fail)
        generalize (wr.alloc (Obj.cells #[.int .i64 l, .slice ro yr.length rc] 37)) = W2 at *
        refine Calls.mono CT.out ?_
        rintro e w1 ⟨rfl, e2⟩
        subst w1
        obtain ⟨q0, q1, _⟩ := cells_two_z hx2.out
        obtain ⟨m0, m1, _⟩ := cells_two_z kn.out
        have hzb2 := (Array.getElem?_eq_some_iff.1 hx2.out).1
        clear CT
        go_wp2_with (go_at_call 25; fail)
        refine Calls.mono FR.out ?_
        rintro e w3 ⟨rfl, hbt, hs3⟩
        rw [← e1.out, ← ST.out] at hs3
        have hb3 : Hid (But I C w w3) := hb2.out.trans hbt.out
        have hx3 : Hid (w3.heap[B]? = some (.cells #[.slice (some ⟨I, 0, none⟩) n n, .chan (some C)] 51 (0, 0))) := (hbt.out.block _ hzb2 hne.1 hne.2).trans hx2.out
        clear FR e1 ST hbt hb2 hx2 hs2 kn hbn hs hb hbx q0 q1 m0 m1 k0 k1 KI KW
        go_wp2_with fail
        go_roundw
        case rel => exact ⟨k + 1, by omega, by go_num, hs3, hb3, hx3⟩
        case measure => simp [intOf]; omega
      · have CT : Hid _ := CI.out false (decide_eq_false hx)
        have e1 : Hid (Nl.askIf x st1 (l, yr) = st1) := if_neg hx
        rw [e1.out] at ST
        rw [← ST.out] at hs2
        clear CI hx HR1 hyn hyl
        go_wp2_with (go_at_call 28; fail)
        generalize (wr.alloc (Obj.cells #[.int .i64 l, .slice ro yr.length rc] 37)) = W2 at *
        refine Calls.mono CT.out ?_
        rintro e w1 ⟨rfl, e2⟩
        subst w1
        clear CT hs hb hbx kn hbn k0 k1 KI KW ST e1
        go_wp2_with fail
        go_roundw
        case rel => exact ⟨k + 1, by omega, by go_num, hs2, hb2, hx2⟩
        case measure => simp [intOf]; omega
    · have e : k = g.rules.length := by omega
      subst e
      rw [List.take_length] at hs
      go_wp2_with fail
      go_end0
      exact ⟨rfl, hb, hs⟩
end Go.Proofs.Ytkcohemphaafkaa

namespace Go.Proofs.Ytkcohemphaafkaa
open Go.RowKit Go.Conc

theorem fnR7 (a : Array Value) (W : World) : Sem.run Try.prog (callFunc 47 a) W = .ok (.enter 47 a) W := by go_simp
theorem fnP7 (a : Array Value) (W : World) : Sem.run Try.prog (callFunc 27 a) W = .ok (.enter 27 a) W := by go_simp

set_option maxRecDepth 100000 in
set_option maxHeartbeats 3200000 in
theorem reach7_any (rs : List Gr.Rl) (g : Gr.Gm) (G : GA) (T n : Nat) (y : Int) (qa : Option Addr) (qc : Nat) (w : World) (hn : g.terms.length + g.names.length = n) (h4 : n ≤ 4000) (hf : Nl.Fit T n rs) (hy : 0 ≤ y ∧ y < (n : Int)) (hrc : rs.length ≤ 4000) (h8 : ∀ r ∈ rs, r.2.length ≤ 4000) (hR : RlsAt w.heap.size w qa rs) :
    Calls Try.prog 21 #[.agg (gmCells g G), .slice qa rs.length qc, .int .i64 y] w fun e w' => ∃ I, e = .returned (.slice (some ⟨I, 0, none⟩) n n) ∧ Hid (BoolsAt w'.heap.size w' (some ⟨I, 0, none⟩) (Nl.nulls (Us.reachC rs y) n)) ∧ Hid (Below w.heap.size w w') := by
  obtain ⟨ta, tc, na, nc, ra, rac⟩ := G
  have hmf : ∀ (fn : Fn) (first cap : Array Value) (w : World), (Instr.makeFunc fn first cap).run Try.prog w = .ok (.func fn first cap) w := fun _ _ _ _ => rfl
  have HR : Hid (RlsAt w.heap.size w qa rs) := hR
  have HF : Hid _ := hf
  have HY : Hid _ := hy
  have H8 : Hid _ := h8
  have HBG : Hid (∀ W : World, Calls Try.prog 23 #[.agg #[.slice ta g.terms.length tc, .slice na g.names.length nc, .slice ra g.rules.length rac]] W fun e w' => ∃ I C, e = .returned (.agg #[.slice (some ⟨I, 0, none⟩) n n, .chan (some C)]) ∧ W.heap.size ≤ I ∧ W.heap.size ≤ C ∧ Hid (Below W.heap.size W w') ∧ Hid (SAt I C n ⟨List.replicate n false, []⟩ w')) := fun W => begun7_any n g ⟨ta, tc, na, nc, ra, rac⟩ W hn h4
  have hB : Hid (Below w.heap.size w ((w.alloc (Obj.cells #[.slice ta g.terms.length tc, .slice na g.names.length nc, .slice ra g.rules.length rac] 25)).alloc (Obj.cells #[.slice qa rs.length qc] 23))) := ((Below.refl _ w).alloc (Nat.le_refl _) _).alloc (by simp) _
  have b1 : Hid (((w.alloc (Obj.cells #[.slice ta g.terms.length tc, .slice na g.names.length nc, .slice ra g.rules.length rac] 25)).alloc (Obj.cells #[.slice qa rs.length qc] 23)).heap[w.heap.size + 1]? = some (.cells #[.slice qa rs.length qc] 23 (0, 0))) := by
    show _ = _
    have := heap_alloc_new (w.alloc (Obj.cells #[.slice ta g.terms.length tc, .slice na g.names.length nc, .slice ra g.rules.length rac] 25)) (Obj.cells #[.slice qa rs.length qc] 23)
    simpa using this
  clear hn hf hy h8 hR
  simp only [gmCells]
  go_enter Try.func21, Try.ntmps21
  go_wp2_with (go_at_call 23; fail)
  generalize ((w.alloc (Obj.cells #[.slice ta g.terms.length tc, .slice na g.names.length nc, .slice ra g.rules.length rac] 25)).alloc (Obj.cells #[.slice qa rs.length qc] 23)) = W0 at *
  refine Calls.mono (HBG.out _) ?_
  rintro e w1 ⟨I, C, rfl, hI, hC, hb1, hs1⟩
  have hz0 := hB.out.size
  have hzb := (Array.getElem?_eq_some_iff.1 b1.out).1
  have hB1 : Hid (Below w.heap.size w w1) := hB.out.trans (hb1.out.mono hB.out.size)
  have hz1 := hb1.out.size
  have k1 : Hid (w1.heap[w.heap.size + 1]? = some (.cells #[.slice qa rs.length qc] 23 (0, 0))) := (hb1.out.block _ hzb).trans b1.out
  have hb2 : Hid (Below w1.heap.size w1 (w1.alloc (Obj.cells #[.slice (some ⟨I, 0, none⟩) n n, .chan (some C)] 51))) := (Below.refl _ w1).alloc (Nat.le_refl _) _
  have S2 : Hid (SAt I C n ⟨List.replicate n false, []⟩ (w1.alloc (Obj.cells #[.slice (some ⟨I, 0, none⟩) n n, .chan (some C)] 51))) := hs1.out.later hb2.out
  have k2 : Hid ((w1.alloc (Obj.cells #[.slice (some ⟨I, 0, none⟩) n n, .chan (some C)] 51)).heap[w.heap.size + 1]? = some (.cells #[.slice qa rs.length qc] 23 (0, 0))) := (hb2.out.block _ (by omega)).trans k1.out
  have x2 : Hid ((w1.alloc (Obj.cells #[.slice (some ⟨I, 0, none⟩) n n, .chan (some C)] 51)).heap[w1.heap.size]? = some (.cells #[.slice (some ⟨I, 0, none⟩) n n, .chan (some C)] 51 (0, 0))) := heap_alloc_new w1 _
  have hB2 : Hid (Below w.heap.size w (w1.alloc (Obj.cells #[.slice (some ⟨I, 0, none⟩) n n, .chan (some C)] 51))) := hB1.out.trans (hb2.out.mono hB1.out.size)
  have FI : Hid (Calls Try.prog 24 #[.agg #[.slice (some ⟨I, 0, none⟩) n n, .chan (some C)], .int .i64 y] (w1.alloc (Obj.cells #[.slice (some ⟨I, 0, none⟩) n n, .chan (some C)] 51)) fun e w' => e = .returned (.tuple #[]) ∧ Hid (But I C (w1.alloc (Obj.cells #[.slice (some ⟨I, 0, none⟩) n n, .chan (some C)] 51)) w') ∧ Hid (SAt I C n (Us.find ⟨List.replicate n false, []⟩ y) w')) :=
    find_any ⟨List.replicate n false, []⟩ n I C y _ S2.out (Us.Sv.start (cs := [])).rm HY.out
  clear b1 hb1 hs1 hB HBG
  go_wp2_with (go_at_call 24; fail)
  generalize (w1.alloc (Obj.cells #[.slice (some ⟨I, 0, none⟩) n n, .chan (some C)] 51)) = W2 at *
  generalize w1.heap.size = B at *
  refine Calls.mono FI.out ?_
  rintro e w3 ⟨rfl, hbt, hs3⟩
  have hne := sch_ne S2.out x2.out
  have hlt2 := S2.out.lt
  have k3 : Hid (w3.heap[w.heap.size + 1]? = some (.cells #[.slice qa rs.length qc] 23 (0, 0))) := (hbt.out.block _ (Array.getElem?_eq_some_iff.1 k2.out).1 (by omega) (by omega)).trans k2.out
  have x3 : Hid (w3.heap[B]? = some (.cells #[.slice (some ⟨I, 0, none⟩) n n, .chan (some C)] 51 (0, 0))) := (hbt.out.block _ (Array.getElem?_eq_some_iff.1 x2.out).1 hne.1 hne.2).trans x2.out
  have hB3 : Hid (Below w.heap.size w w3) := hB2.out.trans (hbt.out.below (by omega) (by omega) hB2.out.size)
  have hI0 : w.heap.size ≤ I ∧ w.heap.size ≤ C := by omega
  have hne1 : w.heap.size + 1 ≠ I ∧ w.heap.size + 1 ≠ C := by omega
  have AL : Hid (Calls Try.prog 26 #[.agg #[.slice (some ⟨I, 0, none⟩) n n, .chan (some C)], .func (.func 47) #[] #[.pointer (some ⟨w.heap.size + 1, 0, none⟩), .pointer (some ⟨B, 0, none⟩)]] w3 fun e w' => e = .returned (.slice (some ⟨I, 0, none⟩) n n) ∧ ∃ b, Us.Sv n (Us.reachC rs y) (fun _ => False) ⟨b, []⟩ ∧ Hid (But I C w3 w') ∧ Hid (SAt I C n ⟨b, []⟩ w')) :=
    all7_any (Us.Sv n (Us.reachC rs y) (fun _ => False)) (fun x s => Us.lookR rs x s) 47 fnR7 (w.heap.size + 1) B _ n I C w3 hs3.out (Us.begin_reach HF.out HY.out)
      (fun b x q h => Us.next_reach HF.out HY.out h)
      (fun b x q W h hb hs => lookR_any rs n w.heap.size I C (w.heap.size + 1) B qa qc x ⟨b, q⟩ W hI0 (HR.out.later (hB3.out.trans (hb.below hI0.1 hI0.2 hB3.out.size))) hrc H8.out HF.out.right
        ((hb.block _ (Array.getElem?_eq_some_iff.1 k3.out).1 hne1.1 hne1.2).trans k3.out) ((hb.block _ (Array.getElem?_eq_some_iff.1 x3.out).1 hne.1 hne.2).trans x3.out) hs h.take.1.rm)
  obtain ⟨q0, q1, _⟩ := cells_two_z x3.out
  clear hbt hs3 FI S2 x2 k2 hB2 hb2 HR HF HY H8
  go_wp2_with (go_at_call 26; refine Calls.mono AL.out ?_; rintro e w4 ⟨rfl, b, hP, hb4, hs4⟩)
  go_ret
  refine ⟨I, rfl, ?_, hB3.out.trans (hb4.out.below hI0.1 hI0.2 hB3.out.size)⟩
  have := hs4.out.bools
  rw [hP.done] at this
  exact this

set_option maxRecDepth 100000 in
set_option maxHeartbeats 3200000 in
theorem ureach_is (g : Gr.Gm) (G : GA) (y : Int) (w : World) (hs : g.terms.length ≤ 4000 ∧ g.names.length ≤ 4000) (hm : ∀ x ∈ g.rules, x.2.length ≤ maxLen) (h : GmAt w.heap.size w g G) :
    Calls Try.prog 10 #[.agg (gmCells g G), .int .i64 y] w fun e w' => ∃ ao c, e = .returned (.slice ao (Us.reach g y).length c) ∧ Hid (BoolsAt w'.heap.size w' ao (Us.reach g y)) ∧ Hid (Below w.heap.size w w') := by
  obtain ⟨ta, tc, na, nc, ra, rac⟩ := G
  have HG : Hid (GmAt w.heap.size w g ⟨ta, tc, na, nc, ra, rac⟩) := h
  have HGD : Hid (∀ (r : Bool) (W : World), Below w.heap.size w W → Gr.good g = r → Calls Try.prog 20 #[.agg (gmCells g ⟨ta, tc, na, nc, ra, rac⟩)] W fun e w' => e = .returned (.bool r) ∧ Below W.heap.size W w') := fun r W hW hr => good_is r g _ W hm (h.next hW) hr
  obtain ⟨n, hn⟩ : ∃ n, g.terms.length + g.names.length = n := ⟨_, rfl⟩
  have hall : Hid (Us.all g = n) := hn
  have HSY : Hid (∀ W : World, Calls Try.prog 19 #[.agg #[.slice ta g.terms.length tc, .slice na g.names.length nc, .slice ra g.rules.length rac]] W fun e w' => e = .returned (.int .i64 (n : Int)) ∧ Below W.heap.size W w') := fun W => symbols_is n g ⟨ta, tc, na, nc, ra, rac⟩ W hn (by omega)
  have hbW : Hid (Below w.heap.size w (w.alloc (Obj.cells #[.slice ta g.terms.length tc, .slice na g.names.length nc, .slice ra g.rules.length rac] 25))) := (Below.refl _ w).alloc (Nat.le_refl _) _
  have B0 : Hid ((w.alloc (Obj.cells #[.slice ta g.terms.length tc, .slice na g.names.length nc, .slice ra g.rules.length rac] 25)).heap[w.heap.size]? = some (.cells #[.slice ta g.terms.length tc, .slice na g.names.length nc, .slice ra g.rules.length rac] 25 (0, 0))) := heap_alloc_new w _
  clear h hm
  simp only [gmCells] at HGD ⊢
  by_cases h0 : y < 0
  · have R : Hid (Us.reach g y = []) := Us.reach_no (by omega)
    have hd : decide (y < 0) = true := decide_eq_true h0
    clear h0 HGD HSY B0
    go_enter Try.func10, Try.ntmps10
    go_wp2_with fail
    go_ret
    refine ⟨none, 0, by rw [R.out]; rfl, ?_, hbW.out⟩
    rw [R.out]; exact CellsAt.nil
  · have hd : decide (y < 0) = false := decide_eq_false h0
    by_cases h1 : y < (n : Int)
    · have hd1 : decide ((n : Int) ≤ y) = false := decide_eq_false (by omega)
      have hyy : 0 ≤ y ∧ y < (n : Int) := by omega
      cases hg : Gr.good g
      · have R : Hid (Us.reach g y = []) := Us.reach_no (by simp [hg])
        have HC1 : Hid (∀ W : World, Below w.heap.size w W → Calls Try.prog 20 #[.agg #[.slice ta g.terms.length tc, .slice na g.names.length nc, .slice ra g.rules.length rac]] W fun e w' => e = .returned (.bool false) ∧ Below W.heap.size W w') := fun W hW => HGD.out false W hW hg
        clear h0 HGD h1 hyy
        go_enter Try.func10, Try.ntmps10
        go_wp2_with (go_at_call 19; fail)
        generalize (w.alloc (Obj.cells #[.slice ta g.terms.length tc, .slice na g.names.length nc, .slice ra g.rules.length rac] 25)) = W at *
        refine Calls.mono (HSY.out _) ?_
        rintro e w1 ⟨rfl, hb1⟩
        have k1 : Hid _ := (hb1.block _ (Array.getElem?_eq_some_iff.1 B0.out).1).trans B0.out
        have hB1 : Hid (Below w.heap.size w w1) := hbW.out.trans (hb1.mono hbW.out.size)
        obtain ⟨g0, g1, g2, _⟩ := cells_three_z k1.out
        clear hb1 B0 hbW
        go_wp2_with (go_at_call 20; refine Calls.mono (HC1.out _ hB1.out) ?_; rintro e w2 ⟨rfl, hb2⟩)
        go_ret
        refine ⟨none, 0, by rw [R.out]; rfl, ?_, hB1.out.trans (hb2.mono hB1.out.size)⟩
        rw [R.out]; exact CellsAt.nil
      · have R : Hid (Us.reach g y = Nl.nulls (Us.reachC g.rules y) n) := by show _ = _; unfold Us.reach; rw [hall.out, if_pos ⟨hg, hyy⟩]
        have HC1 : Hid (∀ W : World, Below w.heap.size w W → Calls Try.prog 20 #[.agg #[.slice ta g.terms.length tc, .slice na g.names.length nc, .slice ra g.rules.length rac]] W fun e w' => e = .returned (.bool true) ∧ Below W.heap.size W w') := fun W hW => HGD.out true W hW hg
        obtain ⟨hsz, h8⟩ := Nl.sizes_of hg
        have HRE : Hid (∀ W : World, Below w.heap.size w W → Calls Try.prog 21 #[.agg #[.slice ta g.terms.length tc, .slice na g.names.length nc, .slice ra g.rules.length rac], .slice ra g.rules.length rac, .int .i64 y] W fun e w' => ∃ I, e = .returned (.slice (some ⟨I, 0, none⟩) n n) ∧ Hid (BoolsAt w'.heap.size w' (some ⟨I, 0, none⟩) (Nl.nulls (Us.reachC g.rules y) n)) ∧ Hid (Below W.heap.size W w')) :=
          fun W hW => reach7_any g.rules g ⟨ta, tc, na, nc, ra, rac⟩ g.terms.length n y ra rac W hn (by omega) (by rw [← hn]; exact Nl.fit_of hg) hyy (by omega) (fun r hr => Nat.le_trans (h8 r hr) (by omega)) (HG.out.next hW).rules
        clear h0 HGD h1 hyy h8 hsz
        go_enter Try.func10, Try.ntmps10
        go_wp2_with (go_at_call 19; fail)
        generalize (w.alloc (Obj.cells #[.slice ta g.terms.length tc, .slice na g.names.length nc, .slice ra g.rules.length rac] 25)) = W at *
        refine Calls.mono (HSY.out _) ?_
        rintro e w1 ⟨rfl, hb1⟩
        have k1 : Hid _ := (hb1.block _ (Array.getElem?_eq_some_iff.1 B0.out).1).trans B0.out
        have hB1 : Hid (Below w.heap.size w w1) := hbW.out.trans (hb1.mono hbW.out.size)
        obtain ⟨g0, g1, g2, _⟩ := cells_three_z k1.out
        clear hb1 B0 hbW
        go_wp2_with (go_at_call 20; fail)
        refine Calls.mono (HC1.out _ hB1.out) ?_
        rintro e w2 ⟨rfl, hb2⟩
        have k2 : Hid _ := (hb2.block _ (Array.getElem?_eq_some_iff.1 k1.out).1).trans k1.out
        have hB2 : Hid (Below w.heap.size w w2) := hB1.out.trans (hb2.mono hB1.out.size)
        clear hb2 k1 hB1 g0 g1 g2
        obtain ⟨g0, g1, g2, _⟩ := cells_three_z k2.out
        go_wp2_with (go_at_call 21; refine Calls.mono (HRE.out _ hB2.out) ?_; rintro e w3 ⟨I, rfl, hbo, hb3⟩)
        go_ret
        refine ⟨some ⟨I, 0, none⟩, n, ?_, ?_, hB2.out.trans (hb3.out.mono hB2.out.size)⟩
        · rw [R.out, Nl.nulls_len]; rfl
        · rw [R.out]; exact hbo.out
    · have hd1 : decide ((n : Int) ≤ y) = true := decide_eq_true (by omega)
      have R : Hid (Us.reach g y = []) := Us.reach_no (by rw [hall.out]; omega)
      clear h0 h1 HGD
      go_enter Try.func10, Try.ntmps10
      go_wp2_with (go_at_call 19; fail)
      generalize (w.alloc (Obj.cells #[.slice ta g.terms.length tc, .slice na g.names.length nc, .slice ra g.rules.length rac] 25)) = W at *
      refine Calls.mono (HSY.out _) ?_
      rintro e w1 ⟨rfl, hb1⟩
      have hB1 : Hid (Below w.heap.size w w1) := hbW.out.trans (hb1.mono hbW.out.size)
      clear hb1 B0 hbW
      go_wp2_with fail
      go_ret
      refine ⟨none, 0, by rw [R.out]; rfl, ?_, hB1.out⟩
      rw [R.out]; exact CellsAt.nil

/-- what holds of memory while Productive goes -/
structure PInv7 (n I C B : Nat) (g : Gr.Gm) (G : GA) (st : Nl.St) (w wr : World) : Prop where
  below : Below w.heap.size w wr
  at' : SAt I C n st wr
  gb : wr.heap[w.heap.size]? = some (.cells (gmCells g G) 25 (0, 0))
  sb : wr.heap[B]? = some (.cells #[.slice (some ⟨I, 0, none⟩) n n, .chan (some C)] 51 (0, 0))
theorem PInv7.step {n I C B : Nat} {g : Gr.Gm} {G : GA} {st st' : Nl.St} {w wr w' : World} (h : PInv7 n I C B g G st w wr) (hb : But I C wr w') (hs : SAt I C n st' w') (hI : w.heap.size < I ∧ w.heap.size < C) : PInv7 n I C B g G st' w w' := by
  have hne := sch_ne h.at' h.sb
  exact ⟨h.below.trans (hb.below (by omega) (by omega) h.below.size), hs, (hb.block _ (Array.getElem?_eq_some_iff.1 h.gb).1 (by omega) (by omega)).trans h.gb, (hb.block _ (Array.getElem?_eq_some_iff.1 h.sb).1 hne.1 hne.2).trans h.sb⟩

theorem rm_terms {n T : Nat} (hT : T ≤ n) (k : Nat) (hk : k ≤ T) : Us.Rm n ((List.range k).foldl (fun s (t : Nat) => Us.find s (t : Int)) ⟨List.replicate n false, []⟩) := by
  induction k with
  | zero => exact (Us.Sv.start (cs := [])).rm
  | succ k ih =>
    rw [List.range_succ, List.foldl_append]
    exact ((ih (by omega)).find (x := (k : Int)) (by omega)).1

set_option maxRecDepth 100000 in
set_option maxHeartbeats 3200000 in
theorem uprod_is (g : Gr.Gm) (G : GA) (w : World) (hm : ∀ x ∈ g.rules, x.2.length ≤ maxLen) (h : GmAt w.heap.size w g G) :
    Calls Try.prog 12 #[.agg (gmCells g G)] w fun e w' => ∃ ao c, e = .returned (.slice ao (Us.prod g).length c) ∧ Hid (BoolsAt w'.heap.size w' ao (Us.prod g)) ∧ Hid (Below w.heap.size w w') := by
  obtain ⟨ta, tc, na, nc, ra, rac⟩ := G
  have hmf : ∀ (fn : Fn) (first cap : Array Value) (w : World), (Instr.makeFunc fn first cap).run Try.prog w = .ok (.func fn first cap) w := fun _ _ _ _ => rfl
  have HG : Hid (GmAt w.heap.size w g ⟨ta, tc, na, nc, ra, rac⟩) := h
  have HGD : Hid (∀ (r : Bool) (W : World), Below w.heap.size w W → Gr.good g = r → Calls Try.prog 20 #[.agg (gmCells g ⟨ta, tc, na, nc, ra, rac⟩)] W fun e w' => e = .returned (.bool r) ∧ Below W.heap.size W w') := fun r W hW hr => good_is r g _ W hm (h.next hW) hr
  obtain ⟨n, hn⟩ : ∃ n, g.terms.length + g.names.length = n := ⟨_, rfl⟩
  have hall : Hid (Us.all g = n) := hn
  have hbW : Hid (Below w.heap.size w (w.alloc (Obj.cells #[.slice ta g.terms.length tc, .slice na g.names.length nc, .slice ra g.rules.length rac] 25))) := (Below.refl _ w).alloc (Nat.le_refl _) _
  have B0 : Hid ((w.alloc (Obj.cells #[.slice ta g.terms.length tc, .slice na g.names.length nc, .slice ra g.rules.length rac] 25)).heap[w.heap.size]? = some (.cells #[.slice ta g.terms.length tc, .slice na g.names.length nc, .slice ra g.rules.length rac] 25 (0, 0))) := heap_alloc_new w _
  clear h hm
  simp only [gmCells] at HGD ⊢
  cases hg : Gr.good g
  · have R : Hid (Us.prod g = []) := Us.prod_no hg
    have HC1 : Hid (∀ W : World, Below w.heap.size w W → Calls Try.prog 20 #[.agg #[.slice ta g.terms.length tc, .slice na g.names.length nc, .slice ra g.rules.length rac]] W fun e w' => e = .returned (.bool false) ∧ Below W.heap.size W w') := fun W hW => HGD.out false W hW hg
    clear HGD
    go_enter Try.func12, Try.ntmps12
    go_wp2_with (go_at_call 20; refine Calls.mono (HC1.out _ hbW.out) ?_; rintro e w1 ⟨rfl, hb1⟩)
    go_ret
    refine ⟨none, 0, by rw [R.out]; rfl, ?_, hbW.out.trans (hb1.mono hbW.out.size)⟩
    rw [R.out]; exact CellsAt.nil
  · have R : Hid (Us.prod g = Nl.nulls (Us.prodC g.terms.length g.rules) n) := by show _ = _; unfold Us.prod; rw [hall.out, if_pos hg]
    have HC1 : Hid (∀ W : World, Below w.heap.size w W → Calls Try.prog 20 #[.agg #[.slice ta g.terms.length tc, .slice na g.names.length nc, .slice ra g.rules.length rac]] W fun e w' => e = .returned (.bool true) ∧ Below W.heap.size W w') := fun W hW => HGD.out true W hW hg
    obtain ⟨hsz, h8⟩ := Nl.sizes_of hg
    have HF : Hid (Nl.Fit g.terms.length n g.rules) := by show Nl.Fit _ _ _; rw [← hn]; exact Nl.fit_of hg
    have hTn : g.terms.length ≤ n := by omega
    have H8 : Hid (∀ r ∈ g.rules, r.2.length ≤ 4000) := fun r hr => Nat.le_trans (h8 r hr) (by omega)
    have HLF : Hid (∀ r ∈ g.rules, 0 ≤ r.1 ∧ r.1 < (n : Int)) := fun r hr => by have := HF.out.left r hr; omega
    have HBG : Hid (∀ W : World, Calls Try.prog 23 #[.agg #[.slice ta g.terms.length tc, .slice na g.names.length nc, .slice ra g.rules.length rac]] W fun e w' => ∃ I C, e = .returned (.agg #[.slice (some ⟨I, 0, none⟩) n n, .chan (some C)]) ∧ W.heap.size ≤ I ∧ W.heap.size ≤ C ∧ Hid (Below W.heap.size W w') ∧ Hid (SAt I C n ⟨List.replicate n false, []⟩ w')) := fun W => begun7_any n g ⟨ta, tc, na, nc, ra, rac⟩ W hn (by omega)
    clear HGD h8 hn
    go_enter Try.func12, Try.ntmps12
    go_wp2_with (go_at_call 20; fail)
    generalize (w.alloc (Obj.cells #[.slice ta g.terms.length tc, .slice na g.names.length nc, .slice ra g.rules.length rac] 25)) = W at *
    refine Calls.mono (HC1.out _ hbW.out) ?_
    rintro e w1 ⟨rfl, hb1⟩
    have k1 : Hid _ := (hb1.block _ (Array.getElem?_eq_some_iff.1 B0.out).1).trans B0.out
    have hB1 : Hid (Below w.heap.size w w1) := hbW.out.trans (hb1.mono hbW.out.size)
    have hz1 := (Array.getElem?_eq_some_iff.1 k1.out).1
    obtain ⟨g0, g1, g2, _⟩ := cells_three_z k1.out
    clear hb1 B0 hbW HC1
    go_wp2_with (go_at_call 23; fail)
    refine Calls.mono (HBG.out _) ?_
    rintro e w2 ⟨I, C, rfl, hI, hC, hb2, hs2⟩
    have k2 : Hid (w2.heap[w.heap.size]? = some (.cells #[.slice ta g.terms.length tc, .slice na g.names.length nc, .slice ra g.rules.length rac] 25 (0, 0))) := (hb2.out.block _ hz1).trans k1.out
    have hB2 : Hid (Below w.heap.size w w2) := hB1.out.trans (hb2.out.mono hB1.out.size)
    have hz2 := (Array.getElem?_eq_some_iff.1 k2.out).1
    have hb3 : Hid (Below w2.heap.size w2 (w2.alloc (Obj.cells #[.slice (some ⟨I, 0, none⟩) n n, .chan (some C)] 51))) := (Below.refl _ w2).alloc (Nat.le_refl _) _
    have hI0 : w.heap.size < I ∧ w.heap.size < C := by omega
    have P3 : Hid (PInv7 n I C w2.heap.size g ⟨ta, tc, na, nc, ra, rac⟩ ((List.range 0).foldl (fun s (t : Nat) => Us.find s (t : Int)) ⟨List.replicate n false, []⟩) w (w2.alloc (Obj.cells #[.slice (some ⟨I, 0, none⟩) n n, .chan (some C)] 51))) :=
      ⟨hB2.out.trans (hb3.out.mono hB2.out.size), hs2.out.later hb3.out, (hb3.out.block _ hz2).trans k2.out, heap_alloc_new w2 _⟩
    clear hb2 hs2 hb3 hB2 k2 hB1 k1 g0 g1 g2 hz1 HBG hI hC hz2
    go_upto_region 4 with fail
    generalize (w2.alloc (Obj.cells #[.slice (some ⟨I, 0, none⟩) n n, .chan (some C)] 51)) = W3 at *
    generalize w2.heap.size = B at *
    have kg := P3.out.gb
    simp only [gmCells] at kg
    obtain ⟨g0, g1, g2, _⟩ := cells_three_z kg
    have hzg := (Array.getElem?_eq_some_iff.1 kg).1
    clear kg
    go_wp2_with fail
    clear g0 g1 g2 hzg
    go_loopw [15] (fun i wr => ∃ k : Nat, k ≤ g.terms.length ∧ i = .int .i64 k ∧ Hid (PInv7 n I C B g ⟨ta, tc, na, nc, ra, rac⟩ ((List.range k).foldl (fun s (t : Nat) => Us.find s (t : Int)) ⟨List.replicate n false, []⟩) w wr)) (fun i _ => g.terms.length - (intOf i).toNat)
    case atStart => exact ⟨0, Nat.zero_le _, rfl, P3⟩
    case round =>
      obtain ⟨k, hk, rfl, hP⟩ := hrel
      clear P3
      by_cases hkl : k < g.terms.length
      · have hR1 := rm_terms hTn k hk
        have ST : Hid ((List.range (k + 1)).foldl (fun s (t : Nat) => Us.find s (t : Int)) ⟨List.replicate n false, []⟩ = Us.find ((List.range k).foldl (fun s (t : Nat) => Us.find s (t : Int)) ⟨List.replicate n false, []⟩) (k : Int)) := by show _ = _; rw [List.range_succ, List.foldl_append]; rfl
        generalize (List.range k).foldl (fun s (t : Nat) => Us.find s (t : Int)) ⟨List.replicate n false, []⟩ = st1 at *
        have FI : Hid (Calls Try.prog 24 #[.agg #[.slice (some ⟨I, 0, none⟩) n n, .chan (some C)], .int .i64 (k : Int)] wr fun e w' => e = .returned (.tuple #[]) ∧ Hid (But I C wr w') ∧ Hid (SAt I C n (Us.find st1 (k : Int)) w')) := find_any st1 n I C (k : Int) wr hP.out.at' hR1 (by omega)
        obtain ⟨q0, q1, _⟩ := cells_two_z hP.out.sb
        have hzb := (Array.getElem?_eq_some_iff.1 hP.out.sb).1
        clear hR1
        go_wp2_with (go_at_call 24; refine Calls.mono FI.out ?_; rintro e w4 ⟨rfl, hbt, hs4⟩)
        have P4 : Hid (PInv7 n I C B g ⟨ta, tc, na, nc, ra, rac⟩ ((List.range (k + 1)).foldl (fun s (t : Nat) => Us.find s (t : Int)) ⟨List.replicate n false, []⟩) w w4) := by
          show PInv7 _ _ _ _ _ _ _ _ _
          rw [ST.out]; exact hP.out.step hbt.out hs4.out hI0
        clear hbt hs4 FI ST hP q0 q1 hzb
        go_roundw
        case rel => exact ⟨k + 1, by omega, by go_num, P4⟩
        case measure => simp [intOf]; omega
      · have e : k = g.terms.length := by omega
        subst e
        have P5 : Hid (PInv7 n I C B g ⟨ta, tc, na, nc, ra, rac⟩ ((g.rules.take 0).foldl Nl.ask ((List.range g.terms.length).foldl (fun s (t : Nat) => Us.find s (t : Int)) ⟨List.replicate n false, []⟩)) w wr) := hP
        have hR0 : Hid (Us.Rm n ((List.range g.terms.length).foldl (fun s (t : Nat) => Us.find s (t : Int)) ⟨List.replicate n false, []⟩)) := rm_terms hTn _ (Nat.le_refl _)
        have HBP : Hid (Us.Sv n (Us.prodC g.terms.length g.rules) (fun _ => False) (g.rules.foldl Nl.ask ((List.range g.terms.length).foldl (fun s (t : Nat) => Us.find s (t : Int)) ⟨List.replicate n false, []⟩))) := Us.begin_prod HF.out hTn
        generalize ((List.range g.terms.length).foldl (fun s (t : Nat) => Us.find s (t : Int)) ⟨List.replicate n false, []⟩) = st0 at *
        have kg := hP.out.gb
        simp only [gmCells] at kg
        obtain ⟨g0, g1, g2, _⟩ := cells_three_z kg
        have hzg := (Array.getElem?_eq_some_iff.1 kg).1
        clear kg hP
        go_upto_region 10 with fail
        clear g0 g1 g2 hzg
        go_loopw [25] (fun i wr => ∃ k : Nat, k ≤ g.rules.length ∧ i = .int .i64 k ∧ Hid (PInv7 n I C B g ⟨ta, tc, na, nc, ra, rac⟩ ((g.rules.take k).foldl Nl.ask st0) w wr)) (fun i _ => g.rules.length - (intOf i).toNat)
        case atStart => exact ⟨0, Nat.zero_le _, rfl, P5⟩
        case round =>
          obtain ⟨k, hk, rfl, hP⟩ := hrel
          clear P5
          by_cases hkl : k < g.rules.length
          · obtain ⟨b, o, ro, rc, hra, _, _, k0, k1, ki, _⟩ := (HG.out.rules.later hP.out.below) k hkl
            simp only at hra
            subst hra
            have hmm : g.rules[k] ∈ g.rules := List.getElem_mem hkl
            have h8 := H8.out _ hmm
            have hyn := HF.out.right _ hmm
            have hyl := HLF.out _ hmm
            have KI : Hid (IntsAt w.heap.size wr ro g.rules[k].2) := ki
            have ST : Hid ((g.rules.take (k + 1)).foldl Nl.ask st0 = Nl.ask ((g.rules.take k).foldl Nl.ask st0) g.rules[k]) := Gr.take_step _ _ _ _ hkl
            have HR1 : Us.Rm n ((g.rules.take k).foldl Nl.ask st0) := rm_asks _ (fun s r => .inl rfl) _ (fun r hr => HLF.out r (List.mem_of_mem_take hr)) hR0.out
            generalize (g.rules.take k).foldl Nl.ask st0 = st1 at *
            clear ki hmm
            generalize g.rules[k] = y at *
            obtain ⟨l, yr⟩ := y
            simp only at k0 k1 h8 hyn KI hyl
            have hbn : Hid (Below wr.heap.size wr (wr.alloc (Obj.cells #[.int .i64 l, .slice ro yr.length rc] 37))) := (Below.refl _ wr).alloc (Nat.le_refl _) _
            have hMr : w.heap.size ≤ wr.heap.size := hP.out.below.size
            have hs2 : Hid (SAt I C n st1 (wr.alloc (Obj.cells #[.int .i64 l, .slice ro yr.length rc] 37))) := hP.out.at'.later hbn.out
            have P6 : Hid (PInv7 n I C B g ⟨ta, tc, na, nc, some ⟨b, o, none⟩, rac⟩ st1 w (wr.alloc (Obj.cells #[.int .i64 l, .slice ro yr.length rc] 37))) := hP.out.step (But.of hbn.out) hs2.out hI0
            have FR : Hid (Calls Try.prog 25 #[.agg #[.slice (some ⟨I, 0, none⟩) n n, .chan (some C)], .agg #[.int .i64 l, .slice ro yr.length rc]] (wr.alloc (Obj.cells #[.int .i64 l, .slice ro yr.length rc] 37)) fun e w' => e = .returned (.tuple #[]) ∧ Hid (But I C (wr.alloc (Obj.cells #[.int .i64 l, .slice ro yr.length rc] 37)) w') ∧ Hid (SAt I C n (Nl.ask st1 (l, yr)) w')) :=
              findLeft_any st1 n I C (l, yr) ro rc _ hs2.out HR1 (KI.out.later (hbn.out.mono hMr)).size h8 hyl hyn
            obtain ⟨q0, q1, _⟩ := cells_two_z hP.out.sb
            have hzb := (Array.getElem?_eq_some_iff.1 hP.out.sb).1
            clear HR1 hyn hyl hP
            go_wp2_with (go_at_call 25; fail)
            generalize (wr.alloc (Obj.cells #[.int .i64 l, .slice ro yr.length rc] 37)) = W2 at *
            refine Calls.mono FR.out ?_
            rintro e w4 ⟨rfl, hbt, hs4⟩
            have P7 : Hid (PInv7 n I C B g ⟨ta, tc, na, nc, some ⟨b, o, none⟩, rac⟩ ((g.rules.take (k + 1)).foldl Nl.ask st0) w w4) := by
              show PInv7 _ _ _ _ _ _ _ _ _
              rw [ST.out]; exact P6.out.step hbt.out hs4.out hI0
            clear hbt hs4 FR ST P6 hs2 hbn q0 q1 hzb k0 k1 KI
            go_wp2_with fail
            go_roundw
            case rel => exact ⟨k + 1, by omega, by go_num, P7⟩
            case measure => simp [intOf]; omega
          · have e : k = g.rules.length := by omega
            subst e
            rw [List.take_length] at hP
            have hne := sch_ne hP.out.at' hP.out.sb
            have AL : Hid (Calls Try.prog 26 #[.agg #[.slice (some ⟨I, 0, none⟩) n n, .chan (some C)], .func (.func 27) #[] #[.pointer (some ⟨w.heap.size, 0, none⟩), .pointer (some ⟨B, 0, none⟩)]] wr fun e w' => e = .returned (.slice (some ⟨I, 0, none⟩) n n) ∧ ∃ b, Us.Sv n (Us.prodC g.terms.length g.rules) (fun _ => False) ⟨b, []⟩ ∧ Hid (But I C wr w') ∧ Hid (SAt I C n ⟨b, []⟩ w')) :=
              all7_any (Us.Sv n (Us.prodC g.terms.length g.rules) (fun _ => False)) (fun x s => Us.lookP g.rules x s) 27 fnP7 w.heap.size B _ n I C wr hP.out.at' HBP.out
                (fun b x q h => Us.next_prod HF.out hTn h)
                (fun b x q W h hb hs => lookP_any g ⟨ta, tc, na, nc, ra, rac⟩ n w.heap.size I C w.heap.size B x ⟨b, q⟩ W ⟨by omega, by omega⟩ (HG.out.rules.later (hP.out.below.trans (hb.below (by omega) (by omega) hP.out.below.size))) (by omega) H8.out HLF.out HF.out.right
                  ((hb.block _ (Array.getElem?_eq_some_iff.1 hP.out.gb).1 (by omega) (by omega)).trans hP.out.gb) ((hb.block _ (Array.getElem?_eq_some_iff.1 hP.out.sb).1 hne.1 hne.2).trans hP.out.sb) hs h.take.1.rm)
            obtain ⟨q0, q1, _⟩ := cells_two_z hP.out.sb
            have hzb := (Array.getElem?_eq_some_iff.1 hP.out.sb).1
            clear HBP HF H8 HLF hR0
            go_wp2_with (go_at_call 26; refine Calls.mono AL.out ?_; rintro e w4 ⟨rfl, b, hSv, hb4, hs4⟩)
            go_ret
            refine ⟨some ⟨I, 0, none⟩, n, ?_, ?_, hP.out.below.trans (hb4.out.below (by omega) (by omega) hP.out.below.size)⟩
            · rw [R.out, Nl.nulls_len]; rfl
            · rw [R.out]
              have := hs4.out.bools
              rw [hSv.done] at this
              exact this
end Go.Proofs.Ytkcohemphaafkaa

namespace Go.Proofs.Ytkcohemphaafkaa
open Go.RowKit Go.Conc

/-- rules whose row is one's own, whose right sides lie below -/
def HalfRls (M base : Nat) (w : World) (v : Value) (rs : List Gr.Rl) : Prop :=
  ∃ ps : List (Gr.Rl × Value), ps.map (·.1) = rs ∧ w.ownsRow base 37 2 v ps.length (rlsCells ps) ∧ ∀ p ∈ ps, ∃ xo xc, p.2 = .slice xo p.1.2.length xc ∧ IntsAt M w xo p.1.2 ∧ p.1.2.length ≤ xc ∧ xc ≤ maxLen
theorem HalfRls.nil (M base : Nat) (w : World) : HalfRls M base w (.slice none 0 0) [] := ⟨[], rfl, World.ownsRow_nil _ _ _ _, fun p hp => by simp at hp⟩
theorem HalfRls.below {M base : Nat} {w w' : World} {v : Value} {rs : List Gr.Rl} (h : HalfRls M base w v rs) (hM : M ≤ w.heap.size) (hb : Below w.heap.size w w') : HalfRls M base w' v rs := by
  obtain ⟨ps, h1, h2, h3⟩ := h
  refine ⟨ps, h1, ownsRow_below h2 hb, fun p hp => ?_⟩
  obtain ⟨xo, xc, e, q1, q2⟩ := h3 p hp
  exact ⟨xo, xc, e, q1.later (hb.mono hM), q2⟩
theorem HalfRls.lt {M base : Nat} {w : World} {v : Value} {rs : List Gr.Rl} (h : HalfRls M base w v rs) (k : Nat) (hk : v.ownBlock = some k) : base ≤ k := by
  obtain ⟨ps, _, h2, _⟩ := h
  exact (h2.lt k hk).1
theorem HalfRls.read {M base : Nat} {w : World} {v : Value} {rs : List Gr.Rl} (h : HalfRls M base w v rs) : ∃ ao c, v = .slice ao rs.length c ∧ RlsAt w.heap.size w ao rs := by
  obtain ⟨ps, rfl, hown, hr⟩ := h
  have hc := hown
  rcases hown.2 with ⟨rfl, h0⟩ | ⟨g, cap, cur, rfl, hg, hh, hl, hm, _⟩
  · have : ps = [] := List.eq_nil_of_length_eq_zero h0
    subst this
    exact ⟨none, 0, rfl, RlsAt.nil⟩
  · have hlt := (Array.getElem?_eq_some_iff.1 hh).1
    refine ⟨_, _, by rw [List.length_map], fun i hi => ?_⟩
    have hi' : i < ps.length := by simpa using hi
    obtain ⟨ro, rc, hv, ht, h4, h5⟩ := hr ps[i] (List.getElem_mem hi')
    obtain ⟨k0, k1⟩ := rlsCells_get ps i hi'
    have e : (ps.map (·.1))[i] = ps[i].1 := by simp
    refine ⟨g, 0, ro, rc, rfl, hlt, hlt, ?_, ?_, ?_, ?_, h5⟩
    · have := hc.cells (g := g) rfl _ _ k0
      rw [addr_zero_add] at this; rw [e, Nat.zero_add]; exact this
    · have := hc.cells (g := g) rfl _ _ k1
      rw [addr_zero_add] at this; rw [e, Nat.zero_add, ← hv]; exact this
    · rw [e]; exact ht.size
    · rw [e]; exact h4

/-- append of a rule onto such a row -/
theorem wpList_append_half {ops : Array Oper} {rest : List Oper} {o : Oper} {a : Act} {Q : Exit → Act → World → Prop} {w : World} (hw : Region.wanted o (yielded ops a.tmps) = true) (s x : Operand)
    (ho : o.op = .call { callee := .builtin .append, args := #[s, x], argTypes := #[23, 23] }) (M base : Nat) (v : Value) (rs : List Gr.Rl) (hs : a.eval s = v) (hown : HalfRls M base w v rs)
    (b c : Nat) (r : Gr.Rl) (ro : Option Addr) (rc : Nat) (hx : a.eval x = .slice (some ⟨b, 0, none⟩) 1 c) (hc0 : w.cell? ⟨b, 0, none⟩ = some (.int .i64 r.1)) (hc1 : w.cell? ⟨b, 1, none⟩ = some (.slice ro r.2.length rc))
    (hr : IntsAt M w ro r.2) (hrc : r.2.length ≤ rc ∧ rc ≤ maxLen) (hb : rs.length + 1 ≤ 2000) (hM : M ≤ base) (hbase : base ≤ w.heap.size)
    (h : ∀ g cap w', HalfRls M base w' (.slice (some ⟨g, 0, none⟩) (rs.length + 1) cap) (rs ++ [r]) → w.grownBy w' v.ownBlock → wpList Try.prog ops Q rest (a.put o.dst (.slice (some ⟨g, 0, none⟩) (rs.length + 1) cap)) w') : wpList Try.prog ops Q (o :: rest) a w := by
  obtain ⟨iA, hi, hz0, hz1, hz2⟩ := info_parts Try.infoRl
  have hlow := fun k hk => hown.lt k hk
  obtain ⟨ps, h1, h2, h3⟩ := hown
  have hpl : ps.length = rs.length := by rw [← h1, List.length_map]
  refine wpList_wanted hw fun K hK => wp_append_lies _ s x 23 ho base 37 iA _ 2 32 Try.underlying23 hi hz0 hz1 hz2 rfl (by decide) v ps.length _ hs h2 ⟨b, 0, none⟩ 1 c (rlCells (r, .slice ro r.2.length rc)) hx rfl ?_ (by simp [rlCells, Value.oneCell']) (by decide) (by unfold maxLen; omega) (by omega) hbase _ rfl
    (fun g cap w' h4 h5 _ _ => ?_)
  · intro j y hj
    match j with
    | 0 => simp [rlCells] at hj; subst hj; simpa [addr_zero_add] using hc0
    | 1 => simp [rlCells] at hj; subst hj; simpa [addr_zero_add] using hc1
    | j + 2 => simp [rlCells] at hj
  · have hB : Below M w w' := (Below.refl M w).grown h5 (Nat.le_trans hM hbase) (fun k hk => Nat.le_trans hM (hlow k hk))
    have : HalfRls M base w' (.slice (some ⟨g, 0, none⟩) (ps.length + 1) cap) (rs ++ [r]) := by
      refine ⟨ps ++ [(r, .slice ro r.2.length rc)], by simp [h1], ?_, fun q hq => ?_⟩
      · rw [List.length_append, rlsCells_append]
        simpa [rlsCells] using h4
      · rcases List.mem_append.1 hq with hq | hq
        · obtain ⟨xo, xc, e, q1, q2⟩ := h3 q hq
          exact ⟨xo, xc, e, q1.later hB, q2⟩
        · simp at hq; subst hq
          exact ⟨ro, rc, rfl, hr.later hB, hrc⟩
    rw [hpl] at this ⊢
    exact hK _ _ (h g cap w' this h5)

theorem filter_step (on : Gr.Rl → Bool) (rs : List Gr.Rl) (k : Nat) (h : k < rs.length) : (rs.take (k + 1)).filter on = (rs.take k).filter on ++ (if on rs[k] = true then [rs[k]] else []) := by
  rw [List.take_add_one, List.getElem?_eq_getElem h, List.filter_append]
  congr 1
  simp [List.filter_cons]

set_option maxRecDepth 100000 in
set_option maxHeartbeats 3200000 in
theorem rulesOf7_any (g : Gr.Gm) (G : GA) (bs : List Bool) (io : Option Addr) (ic : Nat) (w : World) (hrc : g.rules.length ≤ 1000) (h8 : ∀ r ∈ g.rules, r.2.length ≤ 4000) (hin : ∀ r ∈ g.rules, ∀ y ∈ r.2, 0 ≤ y ∧ y < (bs.length : Int)) (hR : RlsAt w.heap.size w G.ra g.rules) (hb : BoolsAt w.heap.size w io bs) :
    Calls Try.prog 29 #[.agg (gmCells g G), .slice io bs.length ic] w fun e w' => ∃ ao c, e = .returned (.slice ao (Us.goods g bs).length c) ∧ Hid (RlsAt w'.heap.size w' ao (Us.goods g bs)) ∧ Hid (Below w.heap.size w w') := by
  obtain ⟨ta, tc, na, nc, ra, rac⟩ := G
  have HR : Hid (RlsAt w.heap.size w ra g.rules) := hR
  have HB : Hid (BoolsAt w.heap.size w io bs) := hb
  have H8 : Hid _ := h8
  have HIN : Hid _ := hin
  have hbW : Hid (Below w.heap.size w (w.alloc (Obj.cells #[.slice ta g.terms.length tc, .slice na g.names.length nc, .slice ra g.rules.length rac] 25))) := (Below.refl _ w).alloc (Nat.le_refl _) _
  have P0 : Hid (HalfRls w.heap.size w.heap.size (w.alloc (Obj.cells #[.slice ta g.terms.length tc, .slice na g.names.length nc, .slice ra g.rules.length rac] 25)) (.slice none 0 0) ((g.rules.take 0).filter fun r => Nl.allIn bs r.2)) := HalfRls.nil _ _ _
  clear h8 hin hR hb
  simp only [gmCells]
  go_enter Try.func29, Try.ntmps29
  go_wp2_with fail
  generalize (w.alloc (Obj.cells #[.slice ta g.terms.length tc, .slice na g.names.length nc, .slice ra g.rules.length rac] 25)) = W at *
  go_loopw [5, 11] (fun v i wr => ∃ (k : Nat) (ao : Option Addr) (c : Nat), k ≤ g.rules.length ∧ i = .int .i64 k ∧ v = .slice ao ((g.rules.take k).filter fun r => Nl.allIn bs r.2).length c ∧ Hid (HalfRls w.heap.size w.heap.size wr (.slice ao ((g.rules.take k).filter fun r => Nl.allIn bs r.2).length c) ((g.rules.take k).filter fun r => Nl.allIn bs r.2)) ∧ Hid (Below w.heap.size w wr)) (fun _ i _ => g.rules.length - (intOf i).toNat)
  case atStart => exact ⟨0, none, 0, Nat.zero_le _, rfl, rfl, P0, hbW⟩
  case round =>
    obtain ⟨k, ao, c, hk, rfl, rfl, hP, hbr⟩ := hrel
    clear P0 hbW
    by_cases hkl : k < g.rules.length
    · obtain ⟨b, o, ro, rc, hra, _, _, k0, k1, ki, kc⟩ := (HR.out.later hbr.out) k hkl
      subst hra
      have hmm : g.rules[k] ∈ g.rules := List.getElem_mem hkl
      have h8 := H8.out _ hmm
      have hyn := HIN.out _ hmm
      have KI : Hid (IntsAt w.heap.size wr ro g.rules[k].2) := ki
      have KC : Hid _ := kc
      have ST : Hid _ := filter_step (fun r => Nl.allIn bs r.2) g.rules k hkl
      have hlk : ((g.rules.take k).filter fun r => Nl.allIn bs r.2).length ≤ 1000 := Nat.le_trans (List.length_filter_le _ _) (by rw [List.length_take]; omega)
      generalize ((g.rules.take k).filter fun r => Nl.allIn bs r.2) = done at *
      clear ki hmm kc
      generalize g.rules[k] = y at *
      obtain ⟨l, yr⟩ := y
      simp only at k0 k1 h8 hyn KI KC ST
      have hzw := hbr.out.size
      have hbn : Hid (Below wr.heap.size wr (wr.alloc (Obj.cells #[.int .i64 l, .slice ro yr.length rc] 37))) := (Below.refl _ wr).alloc (Nat.le_refl _) _
      have kn : Hid ((wr.alloc (Obj.cells #[.int .i64 l, .slice ro yr.length rc] 37)).heap[wr.heap.size]? = some (.cells #[.int .i64 l, .slice ro yr.length rc] 37 (0, 0))) := heap_alloc_new wr _
      have hb2 : Hid (Below w.heap.size w (wr.alloc (Obj.cells #[.int .i64 l, .slice ro yr.length rc] 37))) := hbr.out.trans (hbn.out.mono hzw)
      have HAL : Hid (∀ r : Bool, Nl.allIn bs yr = r → Calls Try.prog 49 #[.slice io bs.length ic, .slice ro yr.length rc] (wr.alloc (Obj.cells #[.int .i64 l, .slice ro yr.length rc] 37)) fun e w' => e = .returned (.bool r) ∧ Below (wr.alloc (Obj.cells #[.int .i64 l, .slice ro yr.length rc] 37)).heap.size (wr.alloc (Obj.cells #[.int .i64 l, .slice ro yr.length rc] 37)) w') :=
        fun r hr => allAre7_is r bs yr h8 hyn io ro ic rc _ (HB.out.later hb2.out).size (KI.out.later (hbn.out.mono hzw)).size hr
      have hP2 : Hid (HalfRls w.heap.size w.heap.size (wr.alloc (Obj.cells #[.int .i64 l, .slice ro yr.length rc] 37)) (.slice ao done.length c) done) := hP.out.below hzw hbn.out
      have KI2 : Hid (IntsAt w.heap.size (wr.alloc (Obj.cells #[.int .i64 l, .slice ro yr.length rc] 37)) ro yr) := KI.out.later (hbn.out.mono hzw)
      clear hyn
      cases ha : Nl.allIn bs yr
      · have HA1 : Hid _ := HAL.out false ha
        rw [ha] at ST
        have ST2 : Hid ((g.rules.take (k + 1)).filter (fun r => Nl.allIn bs r.2) = done) := by show _ = _; rw [ST.out]; simp
        clear HAL ST
        go_wp2_with (go_at_call 49; fail)
        generalize (wr.alloc (Obj.cells #[.int .i64 l, .slice ro yr.length rc] 37)) = W2 at *
        refine Calls.mono HA1.out ?_
        rintro e w3 ⟨rfl, hb3⟩
        have hB3 : Hid (Below w.heap.size w w3) := hb2.out.trans (hb3.mono hb2.out.size)
        have hP3 : Hid (HalfRls w.heap.size w.heap.size w3 (.slice ao ((g.rules.take (k + 1)).filter fun r => Nl.allIn bs r.2).length c) ((g.rules.take (k + 1)).filter fun r => Nl.allIn bs r.2)) := by
          rw [ST2.out]; exact hP2.out.below hb2.out.size hb3
        have eV : Value.slice ao done.length c = Value.slice ao ((g.rules.take (k + 1)).filter fun r => Nl.allIn bs r.2).length c := by rw [ST2.out]
        have EV : Hid _ := eV
        clear hb3 HA1 hP2 hP hbr hbn kn hb2 KI KI2 k0 k1 ST2 eV
        go_wp2_with fail
        go_roundw
        case rel => exact ⟨k + 1, ao, c, by omega, by go_num, EV.out, hP3, hB3⟩
        case measure => simp [intOf]; omega
      · have HA1 : Hid _ := HAL.out true ha
        rw [ha] at ST
        have ST2 : Hid ((g.rules.take (k + 1)).filter (fun r => Nl.allIn bs r.2) = done ++ [(l, yr)]) := by show _ = _; rw [ST.out]; simp
        clear HAL ST
        go_wp2_with (go_at_call 49; fail)
        generalize (wr.alloc (Obj.cells #[.int .i64 l, .slice ro yr.length rc] 37)) = W2 at *
        refine Calls.mono HA1.out ?_
        rintro e w3 ⟨rfl, hb3⟩
        have hB3 : Hid (Below w.heap.size w w3) := hb2.out.trans (hb3.mono hb2.out.size)
        have hP3 : Hid (HalfRls w.heap.size w.heap.size w3 (.slice ao done.length c) done) := hP2.out.below hb2.out.size hb3
        have k3 : Hid _ := (hb3.block _ (Array.getElem?_eq_some_iff.1 kn.out).1).trans kn.out
        have KI3 : Hid (IntsAt w.heap.size w3 ro yr) := KI2.out.later (hb3.mono hb2.out.size)
        obtain ⟨q0, q1, _⟩ := cells_two_z k3.out
        have hz3 := hB3.out.size
        have hb9 : Hid (Below w3.heap.size w3 (w3.alloc (Obj.cells #[Value.int IntKind.i64 l, Value.slice ro yr.length rc] 37))) := (Below.refl _ w3).alloc (Nat.le_refl _) _
        have hzr := (Array.getElem?_eq_some_iff.1 k3.out).1
        clear hb3 HA1 hP2 hP hbr hbn kn hb2 KI KI2 k0 k1
        go_wp2_with (first
          | (at_builtin; refine wpList_append_half rfl _ _ rfl w.heap.size w.heap.size _ done rfl (hP3.out.below hz3 hb9.out) w3.heap.size 1 (l, yr) ro rc rfl (by simp [go_sem]) (by simp [go_sem]) (KI3.out.later (hb9.out.mono hz3)) KC.out (by omega) (Nat.le_refl _) (by simp; omega) ?_; intro ga cap w9 ho9 hg9))
        have hP9 : Hid (HalfRls w.heap.size w.heap.size w9 (.slice (some ⟨ga, 0, none⟩) ((g.rules.take (k + 1)).filter fun r => Nl.allIn bs r.2).length cap) ((g.rules.take (k + 1)).filter fun r => Nl.allIn bs r.2)) := by
          rw [ST2.out, List.length_append]; exact ho9
        have EV : Hid (Value.slice (some ⟨ga, 0, none⟩) (done.length + 1) cap = Value.slice (some ⟨ga, 0, none⟩) ((g.rules.take (k + 1)).filter fun r => Nl.allIn bs r.2).length cap) := by show _ = _; rw [ST2.out, List.length_append]; rfl
        have hB9 : Hid (Below w.heap.size w w9) := (hB3.out.trans (hb9.out.mono hz3)).grown hg9 (by simp; omega) (fun k hk => hP3.out.lt k hk)
        clear ho9 hg9 hb9 hP3 k3 KI3 q0 q1 hB3 ST2
        go_wp2_with fail
        go_roundw
        case rel => exact ⟨k + 1, _, _, by omega, by go_num, EV.out, hP9, hB9⟩
        case measure => simp [intOf]; omega
    · have e : k = g.rules.length := by omega
      subst e
      have eg : Hid ((g.rules.take g.rules.length).filter (fun r => Nl.allIn bs r.2) = Us.goods g bs) := by show _ = _; rw [List.take_length]; rfl
      rw [eg.out] at hP ⊢
      obtain ⟨ao', c', e', hrd⟩ := hP.out.read
      cases e'
      have HRD : Hid (RlsAt wr.heap.size wr ao (Us.goods g bs)) := hrd
      clear hrd hP eg
      go_wp2_with fail
      go_ret
      exact ⟨ao, c, rfl, HRD, hbr⟩

set_option maxRecDepth 100000 in
set_option maxHeartbeats 3200000 in
theorem uuse_is (g : Gr.Gm) (G : GA) (w : World) (hm : ∀ x ∈ g.rules, x.2.length ≤ maxLen) (h : GmAt w.heap.size w g G) :
    Calls Try.prog 14 #[.agg (gmCells g G)] w fun e w' => ∃ ao c, e = .returned (.slice ao (Us.use g).length c) ∧ Hid (BoolsAt w'.heap.size w' ao (Us.use g)) ∧ Hid (Below w.heap.size w w') := by
  obtain ⟨ta, tc, na, nc, ra, rac⟩ := G
  have HG : Hid (GmAt w.heap.size w g ⟨ta, tc, na, nc, ra, rac⟩) := h
  have HPR : Hid (∀ W : World, Below w.heap.size w W → Calls Try.prog 12 #[.agg (gmCells g ⟨ta, tc, na, nc, ra, rac⟩)] W fun e w' => ∃ ao c, e = .returned (.slice ao (Us.prod g).length c) ∧ Hid (BoolsAt w'.heap.size w' ao (Us.prod g)) ∧ Hid (Below W.heap.size W w')) := fun W hW => uprod_is g _ W hm (h.next hW)
  obtain ⟨n, hn⟩ : ∃ n, g.terms.length + g.names.length = n := ⟨_, rfl⟩
  have hall : Hid (Us.all g = n) := hn
  have hbW : Hid (Below w.heap.size w (w.alloc (Obj.cells #[.slice ta g.terms.length tc, .slice na g.names.length nc, .slice ra g.rules.length rac] 25))) := (Below.refl _ w).alloc (Nat.le_refl _) _
  have B0 : Hid ((w.alloc (Obj.cells #[.slice ta g.terms.length tc, .slice na g.names.length nc, .slice ra g.rules.length rac] 25)).heap[w.heap.size]? = some (.cells #[.slice ta g.terms.length tc, .slice na g.names.length nc, .slice ra g.rules.length rac] 25 (0, 0))) := heap_alloc_new w _
  clear h hm
  simp only [gmCells] at HPR ⊢
  go_enter Try.func14, Try.ntmps14
  go_wp2_with (go_at_call 12; fail)
  generalize (w.alloc (Obj.cells #[.slice ta g.terms.length tc, .slice na g.names.length nc, .slice ra g.rules.length rac] 25)) = W at *
  refine Calls.mono (HPR.out _ hbW.out) ?_
  rintro e w1 ⟨po, pc, rfl, hp1, hb1⟩
  have k1 : Hid (w1.heap[w.heap.size]? = some (.cells #[.slice ta g.terms.length tc, .slice na g.names.length nc, .slice ra g.rules.length rac] 25 (0, 0))) := (hb1.out.block _ (Array.getElem?_eq_some_iff.1 B0.out).1).trans B0.out
  have hB1 : Hid (Below w.heap.size w w1) := hbW.out.trans (hb1.out.mono hbW.out.size)
  obtain ⟨g0, g1, g2, _⟩ := cells_three_z k1.out
  clear hb1 B0 hbW HPR
  cases hg : Gr.good g
  · have R : Hid (Us.use g = []) := Us.use_no hg
    have e0 := Us.prod_no hg
    rw [e0, List.length_nil]
    clear e0 hp1
    go_wp2_with fail
    go_ret
    refine ⟨none, 0, by rw [R.out]; rfl, ?_, hB1.out⟩
    rw [R.out]; exact CellsAt.nil
  · have hpl : (Us.prod g).length = n := by rw [Us.prod_len hg]; exact hall.out
    obtain ⟨hsz, h8⟩ := Nl.sizes_of hg
    have hst := Us.start_in hg
    rw [hall.out] at hst
    have hTn : g.terms.length < n := by omega
    have hn4 : n ≤ 4000 := by omega
    have hne0 : ((n : Int) == 0) = false := by simp; omega
    have hUS : Hid (Us.use g = if Nl.isAt (Us.prod g) (g.terms.length : Int) = true then Nl.nulls (Us.reachC (Us.goods g (Us.prod g)) (g.terms.length : Int)) n else List.replicate n false) := by show _ = _; unfold Us.use; rw [if_pos hg, hall.out]
    have hfg : Hid (Nl.Fit g.terms.length n (Us.goods g (Us.prod g))) := by show Nl.Fit _ _ _; rw [← hall.out]; exact Us.fit_goods hg _
    have HIN : Hid (∀ r ∈ g.rules, ∀ y ∈ r.2, 0 ≤ y ∧ y < ((Us.prod g).length : Int)) := fun r hr y hy => by rw [hpl, ← hn]; exact (Nl.fit_of hg).right r hr y hy
    have H8 : Hid (∀ r ∈ g.rules, r.2.length ≤ 4000) := fun r hr => Nat.le_trans (h8 r hr) (by omega)
    have hgl : (Us.goods g (Us.prod g)).length ≤ 4000 := Nat.le_trans (List.length_filter_le _ _) (by omega)
    have H8G : Hid (∀ r ∈ Us.goods g (Us.prod g), r.2.length ≤ 4000) := fun r hr => H8.out r (Us.mem_goods.1 hr).1
    obtain ⟨pb, pof, hpo, _, _, cT⟩ := hp1.out.get g.terms.length (by omega)
    subst hpo
    have eT : Nl.isAt (Us.prod g) (g.terms.length : Int) = (Us.prod g)[g.terms.length] := by rw [Nl.isAt_get (by omega) (by simp; omega)]; simp
    have RO : Hid (∀ V : World, Below w1.heap.size w1 V → Calls Try.prog 29 #[.agg #[.slice ta g.terms.length tc, .slice na g.names.length nc, .slice ra g.rules.length rac], .slice (some ⟨pb, pof, none⟩) n pc] V fun e w' => ∃ ao c, e = .returned (.slice ao (Us.goods g (Us.prod g)).length c) ∧ Hid (RlsAt w'.heap.size w' ao (Us.goods g (Us.prod g))) ∧ Hid (Below V.heap.size V w')) := fun V hV => by
      have := rulesOf7_any g ⟨ta, tc, na, nc, ra, rac⟩ (Us.prod g) (some ⟨pb, pof, none⟩) pc V (by omega) H8.out HIN.out (HG.out.next (hB1.out.trans (hV.mono hB1.out.size))).rules (hp1.out.next hV)
      rw [hpl] at this; exact this
    have hmb := make_bools7 n (by omega)
    rw [hpl]
    rw [eT] at hUS
    clear eT
    generalize (Us.prod g)[g.terms.length] = pT at cT hUS
    clear hpl h8 H8 HIN
    generalize Us.goods g (Us.prod g) = gs at *
    cases pT
    · have R : Hid (Us.use g = List.replicate n false) := by show _ = _; rw [hUS.out]; simp
      clear hUS RO
      go_wp2_with fail
      go_ret
      refine ⟨some ⟨w1.heap.size, 0, none⟩, n, ?_, ?_, hB1.out.alloc hB1.out.size _⟩
      · rw [R.out, List.length_replicate]; rfl
      · rw [R.out]
        have hbk : (w1.alloc (.cells (Array.replicate n (Value.bool false)) 4)).heap[w1.heap.size]? = some (.cells (Array.replicate n (Value.bool false)) 4 (0, 0)) := heap_alloc_new w1 _
        intro i hi
        have hi' : i < n := by simpa using hi
        refine ⟨w1.heap.size, 0, rfl, by simp, by simp, ?_⟩
        unfold World.cell?
        simp only [hbk]
        simp [hi']
    · have R : Hid (Us.use g = Nl.nulls (Us.reachC gs (g.terms.length : Int)) n) := by show _ = _; rw [hUS.out]; simp
      have RE : Hid (∀ (V : World) (qa : Option Addr) (qc : Nat), RlsAt V.heap.size V qa gs → Calls Try.prog 21 #[.agg #[.slice ta g.terms.length tc, .slice na g.names.length nc, .slice ra g.rules.length rac], .slice qa gs.length qc, .int .i64 (g.terms.length : Int)] V fun e w' => ∃ I, e = .returned (.slice (some ⟨I, 0, none⟩) n n) ∧ Hid (BoolsAt w'.heap.size w' (some ⟨I, 0, none⟩) (Nl.nulls (Us.reachC gs (g.terms.length : Int)) n)) ∧ Hid (Below V.heap.size V w')) :=
        fun V qa qc hq => reach7_any gs g ⟨ta, tc, na, nc, ra, rac⟩ g.terms.length n (g.terms.length : Int) qa qc V hn hn4 hfg.out hst hgl H8G.out hq
      clear hUS
      go_upto_region 7 with fail
      have HCG : Hid (∀ w2 : World, Lat w1.drew w2 → w2.cell? ⟨w.heap.size, 0, none⟩ = some (.slice ta g.terms.length tc) ∧ w2.cell? ⟨w.heap.size, 1, none⟩ = some (.slice na g.names.length nc) ∧ w2.cell? ⟨w.heap.size, 2, none⟩ = some (.slice ra g.rules.length rac)) := fun w2 hL => by
        have h := cells_three_z ((hL.of_drew.block _ (Array.getElem?_eq_some_iff.1 k1.out).1).trans k1.out)
        exact ⟨h.1, h.2.1, h.2.2.1⟩
      have RO2 : Hid (∀ w2 : World, Lat w1.drew w2 → Calls Try.prog 29 #[.agg #[.slice ta g.terms.length tc, .slice na g.names.length nc, .slice ra g.rules.length rac], .slice (some ⟨pb, pof, none⟩) n pc] w2 fun e w' => ∃ ao c, e = .returned (.slice ao gs.length c) ∧ Hid (RlsAt w'.heap.size w' ao gs) ∧ Hid (Below w2.heap.size w2 w')) := fun w2 hL => RO.out w2 hL.of_drew
      have HBL : Hid (∀ w2 : World, Lat w1.drew w2 → Below w.heap.size w w2) := fun w2 hL => hB1.out.trans (Below.mono hL.of_drew hB1.out.size)
      clear RO g0 g1 g2 cT hmb
      refine wp_region_lat [.val (.agg #[.slice ta g.terms.length tc, .slice na g.names.length nc, .slice ra g.rules.length rac]), .val (.agg #[.slice ta g.terms.length tc, .slice na g.names.length nc, .slice ra g.rules.length rac]), .val (.slice (some ⟨pb, pof, none⟩) n pc), .fact (fun v w' => ∃ ao c, v = .slice ao gs.length c ∧ RlsAt w'.heap.size w' ao gs), .val (.int .i64 (g.terms.length : Int)), .fact (fun v w' => ∃ I, v = .slice (some ⟨I, 0, none⟩) n n ∧ BoolsAt w'.heap.size w' (some ⟨I, 0, none⟩) (Nl.nulls (Us.reachC gs (g.terms.length : Int)) n))] [_] (by kernel_rfl) (by kernel_rfl) rfl ?kept ?walk
      case kept => exact ⟨fun v w1 w2 hL ⟨bo, bc, e, h1⟩ => ⟨bo, bc, e, (RlsAt.later h1 hL).size⟩, fun v w1 w2 hL ⟨bo, e, h1⟩ => ⟨bo, e, h1.next hL⟩, trivial⟩
      case walk =>
        refine wpFacts_val (by rfl) (fun w1 hL hd K hK => ?_) ?_
        · obtain ⟨d0, d1, d2⟩ := HCG.out w1 hL
          go_simp
          exact hK _ (Lat.refl _)
        refine wpFacts_norm (by simp only [Act.put, List.setIfInBounds_toArray, List.set_cons_zero, List.set_cons_succ]; rfl) (by simp only [List.nil_append]; rfl) ?_
        refine wpFacts_val (by rfl) (fun w1 hL hd K hK => ?_) ?_
        · obtain ⟨d0, d1, d2⟩ := HCG.out w1 hL
          go_simp
          exact hK _ (Lat.refl _)
        refine wpFacts_norm (by simp only [Act.put, List.setIfInBounds_toArray, List.set_cons_zero, List.set_cons_succ]; rfl) (by simp only [List.cons_append, List.nil_append]; rfl) ?_
        refine wpFacts_val (by rfl) (fun w1 hL hd K hK => ?_) ?_
        · go_simp
          exact hK _ (Lat.refl _)
        refine wpFacts_norm (by simp only [Act.put, List.setIfInBounds_toArray, List.set_cons_zero, List.set_cons_succ]; rfl) (by simp only [List.cons_append, List.nil_append]; rfl) ?_
        refine wpFacts_fact (by rfl) (fun w1 hL hd K hK => ?_) (fun v3 => ?_)
        · go_simp
          refine Calls.mono (RO2.out w1 hL) ?_
          rintro e w9 ⟨bo, bc, rfl, hb8, hb9⟩
          exact hK _ _ hb9.out ⟨bo, bc, rfl, hb8.out⟩
        refine wpFacts_norm (by simp only [Act.put, List.setIfInBounds_toArray, List.set_cons_zero, List.set_cons_succ]; rfl) (by simp only [List.cons_append, List.nil_append]; rfl) ?_
        refine wpFacts_val (by rfl) (fun w1 hL hd K hK => ?_) ?_
        · go_simp
          exact hK _ (Lat.refl _)
        refine wpFacts_norm (by simp only [Act.put, List.setIfInBounds_toArray, List.set_cons_zero, List.set_cons_succ]; rfl) (by simp only [List.cons_append, List.nil_append]; rfl) ?_
        refine wpFacts_fact (by rfl) (fun w1 hL hd K hK => ?_) (fun v5 => ?_)
        · obtain ⟨qa, qc, rfl, q3⟩ : ∃ ao c, v3 = .slice ao gs.length c ∧ RlsAt w1.heap.size w1 ao gs := hd.2.1
          go_simp
          refine Calls.mono (RE.out w1 qa qc q3) ?_
          rintro e w9 ⟨I, rfl, hb8, hb9⟩
          exact hK _ _ hb9.out ⟨I, rfl, hb8.out⟩
        refine wpFacts_norm (by simp only [Act.put, List.setIfInBounds_toArray, List.set_cons_zero, List.set_cons_succ]; rfl) (by simp only [List.cons_append, List.nil_append]; rfl) ?_
        intro w2 hL ha
        obtain ⟨I, rfl, hbo⟩ : ∃ I, v5 = .slice (some ⟨I, 0, none⟩) n n ∧ BoolsAt w2.heap.size w2 (some ⟨I, 0, none⟩) (Nl.nulls (Us.reachC gs (g.terms.length : Int)) n) := allHold_get 5 ha rfl rfl
        have HBO : Hid _ := hbo
        have hB9 : Hid _ := HBL.out w2 hL
        clear ha hbo hL
        go_wp2_with fail
        go_ret
        refine ⟨some ⟨I, 0, none⟩, n, ?_, ?_, hB9.out⟩
        · rw [R.out, Nl.nulls_len]; rfl
        · rw [R.out]; exact HBO.out
end Go.Proofs.Ytkcohemphaafkaa
