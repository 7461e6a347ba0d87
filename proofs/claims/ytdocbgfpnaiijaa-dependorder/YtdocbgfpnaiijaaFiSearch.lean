/-
  Layer 8 (first): the search's own functions: heads, grow, rising.
-/
import Derived.Test.YtdocbgfpnaiijaaSetLib
import Derived.Test.YtdocbgfpnaiijaaGrGood6
import Derived.Deep.DeepCutAuto
import Derived.Deep.AppendLies
namespace Go.Proofs.Ytdocbgfpnaiijaa
open Go.RowKit Go.Conc

/-- the search, as a value -/
def fCells (no : Option Addr) (nc L S C n : Nat) : Array Value := #[.slice no n nc, .slice (some ⟨L, 0, none⟩) n n, .slice (some ⟨S, 0, none⟩) n n, .chan (some C)]

set_option maxHeartbeats 800000 in
theorem heads_any (nl : List Bool) (l : List Int) (n L S C : Nat) (no ro : Option Addr) (nc rc : Nat) (w : World) (hn : BoolsAt w.heap.size w no nl) (hl : IntsAt w.heap.size w ro l) (hln : nl.length = n) (hin : ∀ s ∈ l, 0 ≤ s ∧ s < n) (hc : l.length ≤ rc) (h4 : l.length ≤ 4000) :
    Calls Try.prog 118 #[.agg (fCells no nc L S C n), .slice ro l.length rc] w fun e w' => e = .returned (.slice ro (Fi.hn nl l) rc) ∧ Below w.heap.size w w' := by
  subst hln
  have hbW : Hid (Below w.heap.size w (w.alloc (Obj.cells #[.slice no nl.length nc, .slice (some ⟨L, 0, none⟩) nl.length nl.length, .slice (some ⟨S, 0, none⟩) nl.length nl.length, .chan (some C)] 130))) := (Below.refl _ w).alloc (Nat.le_refl _) _
  have b0 : Hid ((w.alloc (Obj.cells #[.slice no nl.length nc, .slice (some ⟨L, 0, none⟩) nl.length nl.length, .slice (some ⟨S, 0, none⟩) nl.length nl.length, .chan (some C)] 130)).cell? ⟨w.heap.size, 0, none⟩ = some (.slice no nl.length nc)) := by show _ = _; simp [go_sem]
  have HB : Hid _ := (hn.later hbW.out).size.get
  have HC : Hid _ := (hl.later hbW.out).size.get
  have HIN : Hid (∀ s ∈ l, 0 ≤ s ∧ s < nl.length) := hin
  clear hn hl hin
  simp only [fCells]
  go_enter Try.func118, Try.ntmps118
  go_upto_region 1 with fail
  generalize (w.alloc (Obj.cells #[.slice no nl.length nc, .slice (some ⟨L, 0, none⟩) nl.length nl.length, .slice (some ⟨S, 0, none⟩) nl.length nl.length, .chan (some C)] 130)) = W at *
  have g0 := b0.out
  go_wp2_with fail
  go_loopw [9] (fun i wr => ∃ q : Nat, q ≤ l.length ∧ i = .int .i64 q ∧ Hid (Fi.hn nl l = q + Fi.hn nl (l.drop q)) ∧ wr = W) (fun i _ => l.length - (intOf i).toNat)
  case atStart => exact ⟨0, Nat.zero_le _, rfl, by show _ = _; rw [List.drop_zero]; omega, rfl⟩
  case round =>
    obtain ⟨q, hq, rfl, hE, rfl⟩ := hrel
    by_cases hlt : q < l.length
    · obtain ⟨b, o, rfl, _, _, k0⟩ := HC.out q hlt
      have PE := hE.out
      rw [Fi.hn_drop hlt] at PE
      have hx := HIN.out _ (List.getElem_mem hlt)
      generalize l[q] = x at *
      obtain ⟨k, rfl⟩ : ∃ k : Nat, x = k := ⟨x.toNat, by omega⟩
      have hk : k < nl.length := by omega
      obtain ⟨b2, o2, rfl, _, _, c1⟩ := HB.out k hk
      have e : Nl.isAt nl (k : Int) = nl[k] := by rw [Nl.isAt_get (by omega) (by simpa using hk)]; simp
      rw [e] at PE
      clear e hx
      generalize nl[k] = y at *
      cases y
      · have R : Hid (q + 1 = Fi.hn nl l) := by show _ = _; rw [PE]; simp
        clear PE hE
        go_wp2_with fail
        go_ret
        refine ⟨?_, hbW.out⟩
        rw [← R.out]; rfl
      · have R : Hid (Fi.hn nl l = (q + 1 : Nat) + Fi.hn nl (l.drop (q + 1))) := by show _ = _; rw [PE]; simp; omega
        clear PE hE
        go_wp2_with fail
        go_roundw
        case rel => exact ⟨q + 1, by omega, by go_num, R, trivial⟩
        case measure => simp [intOf]; omega
    · have R : Hid (l.length = Fi.hn nl l) := by show _ = _; rw [hE.out, List.drop_of_length_le (by omega)]; simp [Fi.hn]; omega
      clear hE
      go_wp2_with fail
      go_ret
      refine ⟨?_, hbW.out⟩
      rw [← R.out]; rfl

theorem cells_four_z {w : World} {b : Nat} {x y z u : Value} {t : TypeId} (h : w.heap[b]? = some (.cells #[x, y, z, u] t (0, 0))) :
    (w.cell? ⟨b, 0, none⟩ = some x ∧ w.cell? ⟨b, 1, none⟩ = some y ∧ w.cell? ⟨b, 2, none⟩ = some z ∧ w.cell? ⟨b, 3, none⟩ = some u) ∧ w.frozen? ⟨b, 0, none⟩ = false ∧ w.frozen? ⟨b, 1, none⟩ = false ∧ w.frozen? ⟨b, 2, none⟩ = false ∧ w.frozen? ⟨b, 3, none⟩ = false := by
  simp [World.cell?, World.frozen?, h]

set_option maxRecDepth 100000 in
set_option maxHeartbeats 1600000 in
theorem grow_any (st : Fi.St) (n T S C cap L nc : Nat) (no : Option Addr) (Bs : List Nat) (a t : Int) (w : World) (hG : GAt S C T cap Bs st w) (hlen : st.ss.length = n) (ha : 0 ≤ a ∧ a < n) (ht : 0 ≤ t ∧ t < T) (hr : Fi.has st.ss a t = false → st.q.length < cap) :
    Calls Try.prog 112 #[.agg (fCells no nc L S C n), .int .i64 a, .int .i64 t] w fun e w' => e = .returned (.tuple #[]) ∧ Hid (ButL (C :: Bs) w w') ∧ Hid (GAt S C T cap Bs (Fi.grow st a t) w') := by
  subst hlen
  obtain ⟨k, rfl⟩ : ∃ k : Nat, a = k := ⟨a.toNat, by omega⟩
  obtain ⟨j, rfl⟩ : ∃ j : Nat, t = j := ⟨t.toNat, by omega⟩
  have hk : k < Bs.length := by rw [hG.rs.len]; omega
  have hks : k < st.ss.length := by omega
  have hj : j < T := by omega
  have HG : Hid (GAt S C T cap Bs st w) := hG
  have HM : Hid _ := hr
  clear ha ht hr hG
  have hB : Hid (Below w.heap.size w (w.alloc (Obj.cells #[.slice no st.ss.length nc, .slice (some ⟨L, 0, none⟩) st.ss.length st.ss.length, .slice (some ⟨S, 0, none⟩) st.ss.length st.ss.length, .chan (some C)] 130))) := (Below.refl _ w).alloc (Nat.le_refl _) _
  have b0 : Hid ((w.alloc (Obj.cells #[.slice no st.ss.length nc, .slice (some ⟨L, 0, none⟩) st.ss.length st.ss.length, .slice (some ⟨S, 0, none⟩) st.ss.length st.ss.length, .chan (some C)] 130)).heap[w.heap.size]? = some (.cells #[.slice no st.ss.length nc, .slice (some ⟨L, 0, none⟩) st.ss.length st.ss.length, .slice (some ⟨S, 0, none⟩) st.ss.length st.ss.length, .chan (some C)] 130 (0, 0))) := heap_alloc_new w _
  have G1 : Hid _ := HG.out.later hB.out
  have hlt := HG.out.lt
  simp only [fCells]
  go_enter Try.func112, Try.ntmps112
  go_upto_region 1 with fail
  generalize (w.alloc (Obj.cells #[.slice no st.ss.length nc, .slice (some ⟨L, 0, none⟩) st.ss.length st.ss.length, .slice (some ⟨S, 0, none⟩) st.ss.length st.ss.length, .chan (some C)] 130)) = W at *
  obtain ⟨⟨q0, q1, q2, q3⟩, _⟩ := cells_four_z b0.out
  have hz := (Array.getElem?_eq_some_iff.1 b0.out).1
  have c0 := G1.out.rs.head k hk
  obtain ⟨c1, f1⟩ := G1.out.rs.cell k j hk hj
  have G2 : Hid _ := G1.out.tell k j hk
  have hBm : Bs[k] ∈ Bs := List.getElem_mem hk
  have hBl := hlt.2.2 _ hBm
  generalize Bs[k] = B at *
  have n0 : B ≠ w.heap.size := by omega
  cases hb : Fi.has st.ss (k : Int) (j : Int)
  · rw [hb] at c1
    have R : Hid (Fi.grow st (k : Int) (j : Int) = ⟨Fi.put st.ss k j, st.q ++ [((k : Int), (j : Int))]⟩) := by show _ = _; unfold Fi.grow; rw [if_neg (by rw [hb]; simp)]
    have hrm := HM.out hb
    clear HM HG hb
    go_upto_region 3 with fail
    refine wp_region_last (pre := [_, _, _, _, _]) ?_
    simp only [List.cons_append, List.nil_append, List.length_cons, List.length_nil, Nat.zero_add, Nat.reduceAdd]
    go_wp2_with fail
    obtain ⟨sn, rn, hch⟩ := G2.out.ch
    refine inReg_send (c := C) (cap := cap) (buf := (st.q.map gainV).toArray) (s := sn) (r := rn) (v := gainV ((k : Int), (j : Int))) (z := .tuple #[]) (tm := false) rfl rfl (by simp [execOp, scase, Act.eval, gainV]) hch (by simpa using hrm) ?_
    refine inReg_ops ?_
    simp only [wpOps]
    go_end0
    refine ⟨rfl, ((ButL.of hB.out).setCell (List.mem_cons_of_mem _ hBm) _ _).setChan (List.mem_cons_self ..) _ _ _ _ _ _, ?_⟩
    show GAt _ _ _ _ _ _ _
    rw [R.out]
    exact G2.out.send _ _ _
  · rw [hb] at c1
    have R : Hid (Fi.grow st (k : Int) (j : Int) = st) := by show _ = _; unfold Fi.grow; rw [if_pos hb]
    clear HM hb
    go_wp2_with fail
    go_end0
    refine ⟨rfl, ButL.of hB.out, ?_⟩
    show GAt _ _ _ _ _ _ _
    rw [R.out]; exact G1.out

set_option maxHeartbeats 1600000 in
theorem rising_any (bs : List Bool) (bo : Option Addr) (bc : Nat) (w : World) (hb : BoolsAt w.heap.size w bo bs) (hl : bs.length ≤ 1000) :
    Calls Try.prog 106 #[.slice bo bs.length bc] w fun e w' => ∃ v, e = .returned v ∧ Hid (OwnInts w.heap.size w' v (Fi.rise bs)) ∧ Hid (Below w.heap.size w w') := by
  have HB : Hid _ := hb
  clear hb
  go_enter Try.func106, Try.ntmps106
  go_wp2_with fail
  go_loopw [3, 8] (fun l i wr => ∃ (q : Nat) (xo : Option Addr) (xc : Nat), q ≤ bs.length ∧ i = .int .i64 q ∧ l = .slice xo (Fi.riseTo bs q).length xc ∧ Hid (OwnInts w.heap.size wr (.slice xo (Fi.riseTo bs q).length xc) (Fi.riseTo bs q)) ∧ Hid (Below w.heap.size w wr)) (fun _ i _ => bs.length - (intOf i).toNat)
  case atStart => exact ⟨0, none, 0, Nat.zero_le _, rfl, rfl, World.ownsRow_nil _ _ _ _, Below.refl _ w⟩
  case round =>
    obtain ⟨q, xo, xc, hq, rfl, rfl, hO, hW⟩ := hrel
    by_cases hlt : q < bs.length
    · obtain ⟨b, o, rfl, _, _, c0⟩ := BoolsAt.get (BoolsAt.later HB.out hW.out) q hlt
      have ST := Fi.riseTo_succ bs q
      rw [List.getD_eq_getElem?_getD, List.getElem?_eq_getElem hlt, Option.getD_some] at ST
      have hrl := Fi.riseTo_len bs q
      generalize bs[q] = y at *
      cases y
      · have R : Hid (Fi.riseTo bs (q + 1) = Fi.riseTo bs q) := by show _ = _; rw [ST]; simp
        clear ST
        go_wp2_with fail
        go_roundw
        case rel => exact ⟨q + 1, xo, xc, by omega, by go_num, by rw [R.out], by show OwnInts _ _ _ _; rw [R.out]; exact hO.out, hW⟩
        case measure => simp [intOf]; omega
      · have R : Hid (Fi.riseTo bs (q + 1) = Fi.riseTo bs q ++ [(q : Int)]) := by show _ = _; rw [ST]; simp
        have hb2 : Hid (Below wr.heap.size wr (wr.alloc (Obj.cells #[.int .i64 (q : Int)] 3))) := (Below.refl _ wr).alloc (Nat.le_refl _) _
        have HO2 : Hid (OwnInts w.heap.size (wr.alloc (Obj.cells #[.int .i64 (q : Int)] 3)) (.slice xo (Fi.riseTo bs q).length xc) (Fi.riseTo bs q)) := ownsRow_below hO.out hb2.out
        have hbase : w.heap.size ≤ (wr.alloc (Obj.cells #[.int .i64 (q : Int)] 3)).heap.size := Nat.le_trans hW.out.size hb2.out.size
        have HB2 : Hid _ := hW.out.trans (hb2.out.mono hW.out.size)
        clear ST hO
        generalize hts : Fi.riseTo bs q = ts at *
        go_wp2_with (first
          | (at_builtin; refine wpList_append_oint rfl _ _ rfl w.heap.size _ ts rfl HO2.out wr.heap.size 1 q rfl (by simp [go_sem]) (by omega) hbase ?_; intro ga cap w3 ho3 hg3))
        have HB3 : Hid (Below w.heap.size w w3) := HB2.out.grown hg3 hbase (fun k hk => (HO2.out.lt k hk).1)
        have HO3 : Hid (OwnInts w.heap.size w3 (.slice (some ⟨ga, 0, none⟩) (Fi.riseTo bs (q + 1)).length cap) (Fi.riseTo bs (q + 1))) := by
          show OwnInts _ _ _ _
          rw [R.out, List.length_append]; exact ho3
        have hlen : ts.length + 1 = (Fi.riseTo bs (q + 1)).length := by rw [R.out, List.length_append]; rfl
        rw [hlen]
        clear ho3 hg3 hts
        go_roundw
        case rel => exact ⟨q + 1, _, _, by omega, by go_num, rfl, HO3, HB3⟩
        case measure => simp [intOf]; omega
    · obtain rfl : q = bs.length := by omega
      go_wp2_with fail
      go_ret
      exact ⟨_, rfl, hO, hW⟩
end Go.Proofs.Ytdocbgfpnaiijaa
