/-
  Layer 9 (follow): the search's own functions: grow, rising, lookBehind.
  Layer 9 (follow): lookBehind.
-/
import Derived.Test.YtdocbgfpnaiijaaFoMath
import Derived.Test.YtdocbgfpnaiijaaFiSearch
import Derived.Test.YtdocbgfpnaiijaaRowsLib
import Derived.Test.YtdocbgfpnaiijaaFiSets
namespace Go.Proofs.Ytdocbgfpnaiijaa
open Go.RowKit Go.Conc

/-- the search, as a value -/
def foCells (T n : Nat) (no fo : Option Addr) (nc fc H S C N : Nat) : Array Value := #[.int .i64 (T : Int), .int .i64 (n : Int), .slice no n nc, .slice fo n fc, .slice (some ⟨H, 0, none⟩) N N, .slice (some ⟨S, 0, none⟩) N N, .chan (some C)]

theorem cells_seven_z {w : World} {b : Nat} {x0 x1 x2 x3 x4 x5 x6 : Value} {t : TypeId} (h : w.heap[b]? = some (.cells #[x0, x1, x2, x3, x4, x5, x6] t (0, 0))) :
    (w.cell? ⟨b, 0, none⟩ = some x0 ∧ w.cell? ⟨b, 1, none⟩ = some x1 ∧ w.cell? ⟨b, 2, none⟩ = some x2 ∧ w.cell? ⟨b, 3, none⟩ = some x3 ∧ w.cell? ⟨b, 4, none⟩ = some x4 ∧ w.cell? ⟨b, 5, none⟩ = some x5 ∧ w.cell? ⟨b, 6, none⟩ = some x6) ∧ w.frozen? ⟨b, 0, none⟩ = false ∧ w.frozen? ⟨b, 1, none⟩ = false ∧ w.frozen? ⟨b, 2, none⟩ = false ∧ w.frozen? ⟨b, 3, none⟩ = false ∧ w.frozen? ⟨b, 4, none⟩ = false ∧ w.frozen? ⟨b, 5, none⟩ = false ∧ w.frozen? ⟨b, 6, none⟩ = false := by
  simp [World.cell?, World.frozen?, h]

set_option maxRecDepth 100000 in
set_option maxHeartbeats 1600000 in
theorem fogrow_any (st : Fi.St) (N T n S C cap H nc fc : Nat) (no fo : Option Addr) (Bs : List Nat) (a t : Int) (w : World) (hG : GAt S C (n + 1) cap Bs st w) (hlen : st.ss.length = N) (ha : 0 ≤ a ∧ a < N) (ht : 0 ≤ t ∧ t < (n + 1 : Nat)) (hr : Fi.has st.ss a t = false → st.q.length < cap) :
    Calls Try.prog 66 #[.agg (foCells T n no fo nc fc H S C N), .int .i64 a, .int .i64 t] w fun e w' => e = .returned (.tuple #[]) ∧ Hid (ButL (C :: Bs) w w') ∧ Hid (GAt S C (n + 1) cap Bs (Fi.grow st a t) w') := by
  subst hlen
  obtain ⟨k, rfl⟩ : ∃ k : Nat, a = k := ⟨a.toNat, by omega⟩
  obtain ⟨j, rfl⟩ : ∃ j : Nat, t = j := ⟨t.toNat, by omega⟩
  have hk : k < Bs.length := by rw [hG.rs.len]; omega
  have hks : k < st.ss.length := by omega
  have hj : j < n + 1 := by omega
  have HG : Hid (GAt S C (n + 1) cap Bs st w) := hG
  have HM : Hid _ := hr
  clear ha ht hr hG
  have hB : Hid (Below w.heap.size w (w.alloc (Obj.cells #[.int .i64 (T : Int), .int .i64 (n : Int), .slice no n nc, .slice fo n fc, .slice (some ⟨H, 0, none⟩) st.ss.length st.ss.length, .slice (some ⟨S, 0, none⟩) st.ss.length st.ss.length, .chan (some C)] 67))) := (Below.refl _ w).alloc (Nat.le_refl _) _
  have b0 : Hid ((w.alloc (Obj.cells #[.int .i64 (T : Int), .int .i64 (n : Int), .slice no n nc, .slice fo n fc, .slice (some ⟨H, 0, none⟩) st.ss.length st.ss.length, .slice (some ⟨S, 0, none⟩) st.ss.length st.ss.length, .chan (some C)] 67)).heap[w.heap.size]? = some (.cells #[.int .i64 (T : Int), .int .i64 (n : Int), .slice no n nc, .slice fo n fc, .slice (some ⟨H, 0, none⟩) st.ss.length st.ss.length, .slice (some ⟨S, 0, none⟩) st.ss.length st.ss.length, .chan (some C)] 67 (0, 0))) := heap_alloc_new w _
  have G1 : Hid _ := HG.out.later hB.out
  have hlt := HG.out.lt
  simp only [foCells]
  go_enter Try.func66, Try.ntmps66
  go_upto_region 1 with fail
  generalize (w.alloc (Obj.cells #[.int .i64 (T : Int), .int .i64 (n : Int), .slice no n nc, .slice fo n fc, .slice (some ⟨H, 0, none⟩) st.ss.length st.ss.length, .slice (some ⟨S, 0, none⟩) st.ss.length st.ss.length, .chan (some C)] 67)) = W at *
  obtain ⟨⟨q0, q1, q2, q3, q4, q5, q6⟩, _⟩ := cells_seven_z b0.out
  have hz := (Array.getElem?_eq_some_iff.1 b0.out).1
  have c0 := G1.out.rs.head k hk
  obtain ⟨c1, f1⟩ := G1.out.rs.cell k j hk hj
  have G2 : Hid _ := G1.out.tell k j hk
  have hBm : Bs[k] ∈ Bs := List.getElem_mem hk
  have hBl := hlt.2.2 _ hBm
  generalize Bs[k] = B at *
  have n0 : B ≠ w.heap.size := by omega
  cases hb : Fi.has st.ss (k : Int) (j : Int)
  · rw [hb] at c1
    have R : Hid (Fi.grow st (k : Int) (j : Int) = ⟨Fi.put st.ss k j, st.q ++ [((k : Int), (j : Int))]⟩) := by show _ = _; unfold Fi.grow; rw [if_neg (by rw [hb]; simp)]
    have hrm := HM.out hb
    clear HM HG hb
    go_upto_region 3 with fail
    refine wp_region_last (pre := [_, _, _, _, _]) ?_
    simp only [List.cons_append, List.nil_append, List.length_cons, List.length_nil, Nat.zero_add, Nat.reduceAdd]
    go_wp2_with fail
    obtain ⟨sn, rn, hch⟩ := G2.out.ch
    refine inReg_send (c := C) (cap := cap) (buf := (st.q.map gainV).toArray) (s := sn) (r := rn) (v := gainV ((k : Int), (j : Int))) (z := .tuple #[]) (tm := false) rfl rfl (by simp [execOp, scase, Act.eval, gainV]) hch (by simpa using hrm) ?_
    refine inReg_ops ?_
    simp only [wpOps]
    go_end0
    refine ⟨rfl, ((ButL.of hB.out).setCell (List.mem_cons_of_mem _ hBm) _ _).setChan (List.mem_cons_self ..) _ _ _ _ _ _, ?_⟩
    show GAt _ _ _ _ _ _ _
    rw [R.out]
    exact G2.out.send _ _ _
  · rw [hb] at c1
    have R : Hid (Fi.grow st (k : Int) (j : Int) = st) := by show _ = _; unfold Fi.grow; rw [if_pos hb]
    clear HM hb
    go_wp2_with fail
    go_end0
    refine ⟨rfl, ButL.of hB.out, ?_⟩
    show GAt _ _ _ _ _ _ _
    rw [R.out]; exact G1.out

set_option maxHeartbeats 1600000 in
theorem frising_any (bs : List Bool) (bo : Option Addr) (bc : Nat) (w : World) (hb : BoolsAt w.heap.size w bo bs) (hl : bs.length ≤ 1000) :
    Calls Try.prog 53 #[.slice bo bs.length bc] w fun e w' => ∃ v, e = .returned v ∧ Hid (OwnInts w.heap.size w' v (Fi.rise bs)) ∧ Hid (Below w.heap.size w w') := by
  have HB : Hid _ := hb
  clear hb
  go_enter Try.func53, Try.ntmps53
  go_wp2_with fail
  go_loopw [3, 8] (fun l i wr => ∃ (q : Nat) (xo : Option Addr) (xc : Nat), q ≤ bs.length ∧ i = .int .i64 q ∧ l = .slice xo (Fi.riseTo bs q).length xc ∧ Hid (OwnInts w.heap.size wr (.slice xo (Fi.riseTo bs q).length xc) (Fi.riseTo bs q)) ∧ Hid (Below w.heap.size w wr)) (fun _ i _ => bs.length - (intOf i).toNat)
  case atStart => exact ⟨0, none, 0, Nat.zero_le _, rfl, rfl, World.ownsRow_nil _ _ _ _, Below.refl _ w⟩
  case round =>
    obtain ⟨q, xo, xc, hq, rfl, rfl, hO, hW⟩ := hrel
    by_cases hlt : q < bs.length
    · obtain ⟨b, o, rfl, _, _, c0⟩ := BoolsAt.get (BoolsAt.later HB.out hW.out) q hlt
      have ST := Fi.riseTo_succ bs q
      rw [List.getD_eq_getElem?_getD, List.getElem?_eq_getElem hlt, Option.getD_some] at ST
      have hrl := Fi.riseTo_len bs q
      generalize bs[q] = y at *
      cases y
      · have R : Hid (Fi.riseTo bs (q + 1) = Fi.riseTo bs q) := by show _ = _; rw [ST]; simp
        clear ST
        go_wp2_with fail
        go_roundw
        case rel => exact ⟨q + 1, xo, xc, by omega, by go_num, by rw [R.out], by show OwnInts _ _ _ _; rw [R.out]; exact hO.out, hW⟩
        case measure => simp [intOf]; omega
      · have R : Hid (Fi.riseTo bs (q + 1) = Fi.riseTo bs q ++ [(q : Int)]) := by show _ = _; rw [ST]; simp
        have hb2 : Hid (Below wr.heap.size wr (wr.alloc (Obj.cells #[.int .i64 (q : Int)] 3))) := (Below.refl _ wr).alloc (Nat.le_refl _) _
        have HO2 : Hid (OwnInts w.heap.size (wr.alloc (Obj.cells #[.int .i64 (q : Int)] 3)) (.slice xo (Fi.riseTo bs q).length xc) (Fi.riseTo bs q)) := ownsRow_below hO.out hb2.out
        have hbase : w.heap.size ≤ (wr.alloc (Obj.cells #[.int .i64 (q : Int)] 3)).heap.size := Nat.le_trans hW.out.size hb2.out.size
        have HB2 : Hid _ := hW.out.trans (hb2.out.mono hW.out.size)
        clear ST hO
        generalize hts : Fi.riseTo bs q = ts at *
        go_wp2_with (first
          | (at_builtin; refine wpList_append_oint rfl _ _ rfl w.heap.size _ ts rfl HO2.out wr.heap.size 1 q rfl (by simp [go_sem]) (by omega) hbase ?_; intro ga cap w3 ho3 hg3))
        have HB3 : Hid (Below w.heap.size w w3) := HB2.out.grown hg3 hbase (fun k hk => (HO2.out.lt k hk).1)
        have HO3 : Hid (OwnInts w.heap.size w3 (.slice (some ⟨ga, 0, none⟩) (Fi.riseTo bs (q + 1)).length cap) (Fi.riseTo bs (q + 1))) := by
          show OwnInts _ _ _ _
          rw [R.out, List.length_append]; exact ho3
        have hlen : ts.length + 1 = (Fi.riseTo bs (q + 1)).length := by rw [R.out, List.length_append]; rfl
        rw [hlen]
        clear ho3 hg3 hts
        go_roundw
        case rel => exact ⟨q + 1, _, _, by omega, by go_num, rfl, HO3, HB3⟩
        case measure => simp [intOf]; omega
    · obtain rfl : q = bs.length := by omega
      go_wp2_with fail
      go_ret
      exact ⟨_, rfl, hO, hW⟩
end Go.Proofs.Ytdocbgfpnaiijaa

namespace Go.Proofs.Ytdocbgfpnaiijaa
open Go.RowKit Go.Conc

/-- what there was below M stands, but for some blocks; and so does whatever is no row of numbers -/
structure Amid (M : Nat) (l : List Nat) (w w' : World) : Prop where
  os : w'.os = w.os
  tape : w'.tape = w.tape
  output : w'.output = w.output
  size : w.heap.size ≤ w'.heap.size
  block : ∀ k, k < M → k ∉ l → w'.heap[k]? = w.heap[k]?
  other : ∀ k cs t fr, k ∉ l → w.heap[k]? = some (.cells cs t fr) → t ≠ 3 → w'.heap[k]? = w.heap[k]?
theorem Amid.refl (M : Nat) (l : List Nat) (w : World) : Amid M l w w := ⟨rfl, rfl, rfl, Nat.le_refl _, fun _ _ _ => rfl, fun _ _ _ _ _ _ _ => rfl⟩
theorem Amid.trans {M : Nat} {l : List Nat} {w w' w'' : World} (h : Amid M l w w') (h' : Amid M l w' w'') : Amid M l w w'' :=
  ⟨h'.os.trans h.os, h'.tape.trans h.tape, h'.output.trans h.output, Nat.le_trans h.size h'.size, fun k hk hl => (h'.block k hk hl).trans (h.block k hk hl), fun k cs t fr hl hc ht => (h'.other k cs t fr hl ((h.other k cs t fr hl hc ht).trans hc) ht).trans (h.other k cs t fr hl hc ht)⟩
theorem Amid.butL {M : Nat} {l : List Nat} {w w' : World} (h : ButL l w w') (hM : M ≤ w.heap.size) : Amid M l w w' :=
  ⟨h.os, h.tape, h.output, h.size, fun k hk hl => h.block k (by omega) hl, fun k cs t fr hl hc _ => h.block k (Array.getElem?_eq_some_iff.1 hc).1 hl⟩
theorem Amid.of {M : Nat} {l : List Nat} {w w' : World} (h : Below w.heap.size w w') (hM : M ≤ w.heap.size) : Amid M l w w' := Amid.butL (ButL.of h) hM
theorem Amid.more {M : Nat} {l l' : List Nat} {w w' : World} (h : Amid M l w w') (hl : ∀ k ∈ l, k ∈ l') : Amid M l' w w' :=
  ⟨h.os, h.tape, h.output, h.size, fun k hk hn => h.block k hk fun q => hn (hl k q), fun k cs t fr hn => h.other k cs t fr fun q => hn (hl k q)⟩
theorem Amid.row {M M' : Nat} {l : List Nat} {w w' : World} {v : Value} {xs : List Int} (ho : OwnInts M' w v xs) (h : w.grownBy w' v.ownBlock) (hM : M ≤ w.heap.size) (hM' : M ≤ M') : Amid M l w w' :=
  ⟨h.os, h.tape, h.output, h.size, fun k hk _ => h.block k (by omega) fun e => by have := (ho.lt k e.symm).1; omega, fun k cs t fr _ hc ht => h.block k (Array.getElem?_eq_some_iff.1 hc).1 fun e => ownsRow_ne ho hc (fun q => ht q.symm) e.symm⟩
theorem Amid.setCell {M : Nat} {l : List Nat} {w w' : World} (h : Amid M l w w') {b : Nat} (hb : b ∈ l) (u : Nat) (v : Value) : Amid M l w (w'.setCell ⟨b, u, none⟩ v) :=
  ⟨h.os, h.tape, h.output, by rw [size_setCell]; exact h.size, fun k hk hl => (Below.heap_setCell _ _ _ _ (fun e => hl (by rw [e]; exact hb))).trans (h.block k hk hl), fun k cs t fr hl hc ht => (Below.heap_setCell _ _ _ _ (fun e => hl (by rw [e]; exact hb))).trans (h.other k cs t fr hl hc ht)⟩
theorem Amid.below {M N : Nat} {l : List Nat} {w w' : World} (h : Amid M l w w') (hl : ∀ k ∈ l, N ≤ k) (hN : N ≤ M) : Below N w w' :=
  ⟨h.os, h.tape, h.output, h.size, fun k hk => h.block k (by omega) fun q => by have := hl k q; omega⟩

/-- a cell that holds no answer is none of the search's -/
theorem GAt.apart {S C T cap : Nat} {Bs : List Nat} {st : Fi.St} {w : World} (h : GAt S C T cap Bs st w) {k o : Nat} {v : Value} (hc : w.cell? ⟨k, o, none⟩ = some v) (hv : ∀ b, v ≠ .bool b) : k ∉ C :: Bs := by
  intro q
  rcases List.mem_cons.1 q with q | q
  · obtain ⟨s, r, hch⟩ := h.ch
    rw [q] at hc
    exact cell_chan hch hc
  · obtain ⟨i, hi, rfl⟩ := List.getElem_of_mem q
    have := cell_in (h.rs.row i hi) hc
    simp only [List.mem_toArray, List.mem_map] at this
    obtain ⟨b, _, e⟩ := this
    exact hv b e.symm
theorem LisAt.keep {N : Nat} {w w' : World} {ao : Option Addr} {xss : List (List Int)} (h : LisAt N w ao xss) (hs : w.heap.size ≤ w'.heap.size) (hk : ∀ k o v, k < N → w.cell? ⟨k, o, none⟩ = some v → (∀ b, v ≠ .bool b) → w'.heap[k]? = w.heap[k]?) : LisAt N w' ao xss := by
  intro i hi
  obtain ⟨b, o, ro, rc, e, h1, h2, c, h3⟩ := h i hi
  exact ⟨b, o, ro, rc, e, h1, Nat.lt_of_lt_of_le h2 hs, (World.cell?_of_block (hk b (o + i) _ h1 c (by simp))).trans c, h3.keep hs fun k o y hk' hc => hk k o _ hk' hc (by simp)⟩

theorem ownsRow_amid {S C T cap H M base sz : Nat} {Bs : List Nat} {st : Fi.St} {w w' : World} {e : TypeId} {v : Value} {n : Nat} {xs : List Value} (h : w.ownsRow base e sz v n xs) (hA : Amid M (H :: C :: Bs) w w') (hM : w.heap.size ≤ M) (hG : GAt S C T cap Bs st w) (he : e ≠ 4) (hne : v.ownBlock ≠ some H) : w'.ownsRow base e sz v n xs := by
  refine ownsRow_keep h fun k hk => hA.block k (by have := (h.lt k hk).2; omega) fun q => ?_
  rcases List.mem_cons.1 q with q | q
  · rw [q] at hk; exact hne hk
  · rcases List.mem_cons.1 q with q | q
    · obtain ⟨s, r, hch⟩ := hG.ch
      rcases h.2 with ⟨rfl, _⟩ | ⟨g, cap, cur, rfl, _, hg, _⟩
      · cases hk
      · have : g = k := by simpa [Value.ownBlock] using hk
        rw [this, q, hch] at hg; cases hg
    · obtain ⟨i, hi, rfl⟩ := List.getElem_of_mem q
      exact ownsRow_ne h (hG.rs.row i hi) he hk
theorem OwnRows.amid {S C T cap H M base : Nat} {Bs : List Nat} {st : Fi.St} {w w' : World} {v : Value} {xss : List (List Int)} (h : OwnRows base w v xss) (hA : Amid M (H :: C :: Bs) w w') (hM : w.heap.size ≤ M) (hG : GAt S C T cap Bs st w) {cs : Array Value} {fr : Nat × Nat} (hH : w.heap[H]? = some (.cells cs 29 fr)) (hne : v.ownBlock ≠ some H) : OwnRows base w' v xss := by
  obtain ⟨vs, g1, g2, g3⟩ := h
  exact ⟨vs, ownsRow_amid g1 hA hM hG (by decide) hne, g2, fun i hi => ownsRow_amid (g3 i hi) hA hM hG (by decide) (ownsRow_ne (g3 i hi) hH (by decide))⟩

set_option maxRecDepth 100000 in
set_option maxHeartbeats 3200000 in
theorem look_any (nl : List Bool) (fs : List (List Int)) (row : List Int) (st : Fi.St) (hs : List (List Int)) (vs : List Value) (T n N M M0 H S C nc fc rc : Nat) (no fo ro : Option Addr) (Bs : List Nat) (l x : Nat) (w : World)
    (hM : M ≤ w.heap.size) (hT : T + N = n) (hn : n ≤ 80) (hG : GAt S C (n + 1) (N * (T + 1)) Bs st w) (hlt : H < M ∧ S < M ∧ C < M ∧ ∀ b ∈ Bs, b < M) (hok : Fo.Ok T n N st) (hL : LAt M H vs hs w) (hhl : hs.length = N) (hsm : (hs.getD l []).length + 1 ≤ 8000)
    (hnl : BoolsAt M0 w no nl) (hM0 : M0 ≤ M) (hB0 : ∀ b ∈ Bs, M0 ≤ b) (hnn : nl.length = n) (hfs : LisAt w.heap.size w fo fs) (hfn : fs.length = n) (hft : ∀ s : Nat, s < n → ∀ t ∈ fs.getD s [], 0 ≤ t ∧ t < T) (hfl : ∀ s : Nat, (fs.getD s []).length ≤ 4000)
    (hr : IntsAt w.heap.size w ro row) (hin : ∀ s ∈ row, 0 ≤ s ∧ s < n) (h4 : row.length ≤ 4000) (hl : l < N) (hx : x < N) :
    Calls Try.prog 89 #[.agg (foCells T n no fo nc fc H S C N), .int .i64 (l : Int), .int .i64 (x : Int), .slice ro row.length rc] w fun e w' => e = .returned (.tuple #[]) ∧ Hid (Amid M (H :: C :: Bs) w w') ∧ Hid (GAt S C (n + 1) (N * (T + 1)) Bs (Fo.look nl fs (x : Int) row st) w') ∧ ∃ vs', Hid (LAt M H vs' (Fo.heirs nl (l : Int) (x : Int) row hs) w') := by
  have HFT : Hid _ := hft
  have HFL : Hid _ := hfl
  have HIN : Hid _ := hin
  have LT : Hid (H < M ∧ S < M ∧ C < M ∧ ∀ b ∈ Bs, b < M) := hlt
  have HTn : Hid (T ≤ n ∧ T ≤ 80) := ⟨by omega, by omega⟩
  have SM : Hid _ := hsm
  have HB : Hid (Below w.heap.size w (w.alloc (Obj.cells #[.int .i64 (T : Int), .int .i64 (n : Int), .slice no n nc, .slice fo n fc, .slice (some ⟨H, 0, none⟩) N N, .slice (some ⟨S, 0, none⟩) N N, .chan (some C)] 67))) := (Below.refl _ w).alloc (Nat.le_refl _) _
  have b0 : Hid ((w.alloc (Obj.cells #[.int .i64 (T : Int), .int .i64 (n : Int), .slice no n nc, .slice fo n fc, .slice (some ⟨H, 0, none⟩) N N, .slice (some ⟨S, 0, none⟩) N N, .chan (some C)] 67)).heap[w.heap.size]? = some (.cells #[.int .i64 (T : Int), .int .i64 (n : Int), .slice no n nc, .slice fo n fc, .slice (some ⟨H, 0, none⟩) N N, .slice (some ⟨S, 0, none⟩) N N, .chan (some C)] 67 (0, 0))) := heap_alloc_new w _
  have G0 : Hid _ := hG.later HB.out
  have L0 : Hid _ := hL.later HB.out
  have N0 : Hid _ := hnl.later (HB.out.mono (Nat.le_trans hM0 hM))
  have F0 : Hid _ := hfs.later HB.out
  have R0 : Hid _ := hr.later HB.out
  have OK0 : Hid _ := hok
  clear hft hfl hin hlt hsm hG hL hnl hfs hr hok
  simp only [foCells]
  go_enter Try.func89, Try.ntmps89
  go_upto_region 1 with fail
  generalize (w.alloc (Obj.cells #[.int .i64 (T : Int), .int .i64 (n : Int), .slice no n nc, .slice fo n fc, .slice (some ⟨H, 0, none⟩) N N, .slice (some ⟨S, 0, none⟩) N N, .chan (some C)] 67)) = W at *
  have hz := HB.out.size
  have HA0 : Hid (Amid M (H :: C :: Bs) w W) := Amid.of HB.out hM
  have KN : Hid (∀ W' : World, ButL (C :: Bs) W W' → BoolsAt M0 W' no nl ∧ LisAt w.heap.size W' fo fs ∧ IntsAt w.heap.size W' ro row ∧ LAt M H vs hs W' ∧ W'.heap[w.heap.size]? = some (.cells #[.int .i64 (T : Int), .int .i64 (n : Int), .slice no n nc, .slice fo n fc, .slice (some ⟨H, 0, none⟩) N N, .slice (some ⟨S, 0, none⟩) N N, .chan (some C)] 67 (0, 0))) := fun W' hW => by
    obtain ⟨sn, rn, hch⟩ := G0.out.ch
    refine ⟨BoolsAt.keep N0.out hW.size fun k o y hk hc => hW.block k (World.block_lt_of_cell? _ _ hc) fun q => ?_, LisAt.keep F0.out hW.size fun k o v hk hc hv => hW.block k (World.block_lt_of_cell? _ _ hc) (G0.out.apart hc hv), IntsAt.keep R0.out hW.size fun k o y hk hc => hW.block k (World.block_lt_of_cell? _ _ hc) (G0.out.apart hc (by simp)), LAt.butL L0.out hW fun q hq cs fr h => ?_, (hW.block _ (Array.getElem?_eq_some_iff.1 b0.out).1 (G0.out.apart (cells_seven_z b0.out).1.1 (by simp))).trans b0.out⟩
    · rcases List.mem_cons.1 q with q | q
      · rw [q] at hc; exact cell_chan hch hc
      · have := hB0 k q; omega
    · rcases List.mem_cons.1 hq with hq | hq
      · rw [hq] at h
        rcases h with h | h <;> rw [hch] at h <;> cases h
      · obtain ⟨i, hi, rfl⟩ := List.getElem_of_mem hq
        have hr := G0.out.rs.row i hi
        rcases h with h | h <;> rw [hr] at h
        · exact absurd (Obj.cells.inj (Option.some.inj h)).2.1 (by decide)
        · exact absurd (Obj.cells.inj (Option.some.inj h)).2.1 (by decide)
  clear N0 F0 R0 L0 hB0 hM0
  have HZM : Hid (M ≤ W.heap.size) := Nat.le_trans hM hz
  have hwl : w.heap.size < W.heap.size := (Array.getElem?_eq_some_iff.1 b0.out).1
  clear hz
  generalize w.heap.size = B at *
  go_wp2_with fail
  go_loopw [14] (fun i wr => ∃ (k : Nat) (st' : Fi.St), k ≤ row.length ∧ i = .int .i64 k ∧ Hid (Fo.look nl fs (x : Int) row st = Fo.look nl fs (x : Int) (row.drop k) st') ∧ Hid (Nl.allIn nl row = Nl.allIn nl (row.drop k)) ∧ Hid (ButL (C :: Bs) W wr) ∧ Hid (GAt S C (n + 1) (N * (T + 1)) Bs st' wr) ∧ Hid (Fo.Ok T n N st')) (fun i _ => row.length - (intOf i).toNat)
  case atStart => exact ⟨0, st, Nat.zero_le _, rfl, by show _ = _; rw [List.drop_zero], by show _ = _; rw [List.drop_zero], ButL.refl _ _, G0, OK0⟩
  case round =>
    obtain ⟨k, st', hk, rfl, hE, hA, hbt, hG, hO⟩ := hrel
    obtain ⟨k1, k2, k3, k4, k5⟩ := KN.out wr hbt.out
    have K1 : Hid (BoolsAt M0 wr no nl) := k1
    have K2 : Hid (LisAt B wr fo fs) := k2
    have K3 : Hid (IntsAt B wr ro row) := k3
    have K4 : Hid (LAt M H vs hs wr) := k4
    have K5 : Hid (wr.heap[B]? = some (.cells #[.int .i64 (T : Int), .int .i64 (n : Int), .slice no n nc, .slice fo n fc, .slice (some ⟨H, 0, none⟩) N N, .slice (some ⟨S, 0, none⟩) N N, .chan (some C)] 67 (0, 0))) := k5
    clear k1 k2 k3 k4 k5 G0 OK0
    obtain ⟨⟨q0, q1, q2, q3, q4, q5, q6⟩, _⟩ := cells_seven_z K5.out
    have hBl := (Array.getElem?_eq_some_iff.1 K5.out).1
    by_cases hkl : k < row.length
    · have hki : (k : Int) < (row.length : Int) := by omega
      obtain ⟨xb, xof, rfl, _, _, x0⟩ := IntsAt.get K3.out k hkl
      have hx0 := HIN.out _ (List.getElem_mem hkl)
      have hd := List.drop_eq_getElem_cons hkl
      rw [hd] at hE hA
      clear hd
      generalize row[k] = y at *
      obtain ⟨m, rfl⟩ : ∃ m : Nat, y = m := ⟨y.toNat, by omega⟩
      have hmn : m < n := by omega
      have hmf : m < fs.length := by omega
      obtain ⟨fb, fof, zo, zc, rfl, _, _, c2, c3⟩ := K2.out m hmf
      have C3 : Hid (IntsAt B wr zo fs[m]) := c3
      have hgd : fs.getD (m : Int).toNat [] = fs[m] := by simp [List.getD_eq_getElem?_getD, hmf]
      have HTS : Hid (∀ t ∈ fs[m], 0 ≤ t ∧ t < T) := fun t ht => HFT.out m hmn t (by
        have : fs.getD m [] = fs[m] := by simp [List.getD_eq_getElem?_getD, hmf]
        rw [this]; exact ht)
      have htl : fs[m].length ≤ 4000 := by
        have := HFL.out m
        have e : fs.getD m [] = fs[m] := by simp [List.getD_eq_getElem?_getD, hmf]
        rw [e] at this; exact this
      have LKs : Fo.look nl fs (x : Int) ((m : Int) :: row.drop (k + 1)) st' = if Nl.isAt nl (m : Int) = true then Fo.look nl fs (x : Int) (row.drop (k + 1)) (Fo.tells (x : Int) fs[m] st') else Fo.tells (x : Int) fs[m] st' := by
        show (if _ then _ else _) = _
        rw [hgd]
      have LK : Hid _ := LKs
      clear LKs hgd c3 hx0
      generalize fs[m] = ts at *
      have hmI : (m : Int) < (n : Int) := by omega
      go_wp2_with fail
      go_loopw [24] (fun i wq => ∃ (j : Nat) (su : Fi.St), j ≤ ts.length ∧ i = .int .i64 j ∧ Hid (Fo.tells (x : Int) ts st' = Fo.tells (x : Int) (ts.drop j) su) ∧ Hid (ButL (C :: Bs) W wq) ∧ Hid (ButL (C :: Bs) wr wq) ∧ Hid (GAt S C (n + 1) (N * (T + 1)) Bs su wq) ∧ Hid (Fo.Ok T n N su)) (fun i _ => ts.length - (intOf i).toNat)
      case atStart => exact ⟨0, st', Nat.zero_le _, rfl, by show _ = _; rw [List.drop_zero], hbt, ButL.refl _ _, hG, hO⟩
      case round =>
        obtain ⟨j, su, hj, rfl, hE2, hbq, hbrq, hG2, hO2⟩ := hrel
        rename World => wq
        have K5q : Hid _ := (KN.out wq hbq.out).2.2.2.2
        clear q0 q1 q2 q3 q4 q5 q6
        obtain ⟨⟨q0, q1, q2, q3, q4, q5, q6⟩, _⟩ := cells_seven_z K5q.out
        have hBq := (Array.getElem?_eq_some_iff.1 K5q.out).1
        have C3q : Hid (IntsAt B wq zo ts) := IntsAt.keep C3.out hbrq.out.size fun k o y hk hc => hbrq.out.block k (World.block_lt_of_cell? _ _ hc) (hG.out.apart hc (by simp))
        by_cases hjl : j < ts.length
        · have hji : (j : Int) < (ts.length : Int) := by omega
          obtain ⟨tb, tof, rfl, _, _, t0⟩ := IntsAt.get C3q.out j hjl
          have ht := HTS.out _ (List.getElem_mem hjl)
          have hd := List.drop_eq_getElem_cons hjl
          rw [hd] at hE2
          clear hd
          generalize ts[j] = t at *
          obtain ⟨a1, a2, a3⟩ := hO2.out.grow HTn.out.1 (a := (x : Int)) (v := t) (by omega) ht.1 (.inl ht.2)
          have HGR : Hid _ := fogrow_any su N T n S C (N * (T + 1)) H nc fc no (some ⟨fb, fof, none⟩) Bs (x : Int) t wq hG2.out hO2.out.shape.len (by omega) (by have := HTn.out.1; omega) a3
          have O3 : Hid (Fo.Ok T n N (Fi.grow su (x : Int) t)) := a1.ok
          have E3 : Hid (Fo.tells (x : Int) ts st' = Fo.tells (x : Int) (ts.drop (j + 1)) (Fi.grow su (x : Int) t)) := hE2
          simp only [foCells] at HGR
          clear a1 a2 a3 hE2 ht hO2 hG2
          go_wp2_with (go_at_call 66; refine Calls.mono HGR.out ?_; rintro e w5 ⟨rfl, hb5, hs5⟩)
          have N1 : Hid (ButL (C :: Bs) W w5) := hbq.out.trans hb5.out
          have N2 : Hid (ButL (C :: Bs) wr w5) := hbrq.out.trans hb5.out
          clear q0 q1 q2 q3 q4 q5 q6 HGR hb5 hbq hbrq K5q hBq
          go_roundw
          case rel => exact ⟨j + 1, _, by omega, by go_num, E3, N1, N2, hs5, O3⟩
          case measure => simp [intOf]; omega
        · obtain rfl : j = ts.length := by omega
          have hji : ¬ (ts.length : Int) < (ts.length : Int) := by omega
          have E4 : Hid (Fo.tells (x : Int) ts st' = su) := by
            have h := hE2.out
            rw [List.drop_of_length_le (Nat.le_refl _)] at h
            exact h
          obtain ⟨nb, nof, rfl, _, _, n0⟩ := BoolsAt.get (KN.out wq hbq.out).1 m (by omega)
          have hat : Nl.isAt nl (m : Int) = nl[m]'(by omega) := by rw [Nl.isAt_get (by omega) (by simp; omega)]; simp
          have hac : Nl.allIn nl ((m : Int) :: row.drop (k + 1)) = (Nl.isAt nl (m : Int) && Nl.allIn nl (row.drop (k + 1))) := rfl
          have AE : Hid (Nl.allIn nl row = (nl[m]'(by omega) && Nl.allIn nl (row.drop (k + 1)))) := by show _ = _; rw [hA.out, hac, hat]
          have LE : Hid (Fo.look nl fs (x : Int) row st = if nl[m]'(by omega) = true then Fo.look nl fs (x : Int) (row.drop (k + 1)) su else su) := by
            show _ = _
            rw [hE.out, LK.out, hat, E4.out]
          clear hat hac hE hA LK hE2 E4 hG hO hbt hbrq K1 K2 K3 K4 K5
          generalize nl[m]'(by omega) = u at *
          cases u
          · have LE2 : Hid (Fo.look nl fs (x : Int) row st = su) := by show _ = _; have := LE.out; simpa using this
            have AE2 : Hid (Nl.allIn nl row = false) := by show _ = _; have := AE.out; simpa using this
            clear LE AE
            go_wp2_with fail
            refine bodyPost_ret (v := .tuple #[]) (by simp [results, Try.results89]) rfl ?_
            refine ⟨rfl, ?_, ?_, vs, ?_⟩
            · exact HA0.out.trans (Amid.more (Amid.butL hbq.out HZM.out) fun k hk => List.mem_cons_of_mem _ hk)
            · show GAt _ _ _ _ _ _ _
              rw [LE2.out]; exact hG2.out
            · show LAt _ _ _ _ _
              unfold Fo.heirs
              rw [AE2.out, if_neg (by simp)]
              exact (KN.out wq hbq.out).2.2.2.1
          · have LE2 : Hid (Fo.look nl fs (x : Int) row st = Fo.look nl fs (x : Int) (row.drop (k + 1)) su) := by show _ = _; have := LE.out; simpa using this
            have AE2 : Hid (Nl.allIn nl row = Nl.allIn nl (row.drop (k + 1))) := by show _ = _; have := AE.out; simpa using this
            clear LE AE
            go_wp2_with fail
            go_roundw
            case rel => exact ⟨k + 1, su, by omega, by go_num, LE2, AE2, hbq, hG2, hO2⟩
            case measure => simp [intOf]; omega
    · obtain rfl : k = row.length := by omega
      have hki : ¬ (row.length : Int) < (row.length : Int) := by omega
      have LE2 : Hid (Fo.look nl fs (x : Int) row st = st') := by
        have h := hE.out
        rw [List.drop_of_length_le (Nat.le_refl _)] at h
        exact h
      have AE2 : Hid (Nl.allIn nl row = true) := by
        have h := hA.out
        rw [List.drop_of_length_le (Nat.le_refl _)] at h
        exact h
      have hlv : l < vs.length := by rw [K4.out.len, hhl]; exact hl
      obtain ⟨y0, hy0⟩ : ∃ y0, hs.getD l [] = y0 := ⟨_, rfl⟩
      have HY0 : Hid (hs.getD l [] = y0) := hy0
      have hown00 := K4.out.own l hlv
      have hsm := SM.out
      rw [hy0] at hown00 hsm
      clear hy0 SM
      obtain ⟨yo, yc, hyv, _⟩ := OwnInts.read hown00
      have hown0 : Hid (OwnInts M wr (.slice yo (y0).length yc) (y0)) := by have := hown00; rw [hyv] at this; exact this
      have hnB : (Value.slice yo (y0).length yc).ownBlock ≠ some B := ownsRow_ne hown0.out K5.out (by decide)
      have hnH := K4.out.ne l hlv
      rw [hyv] at hnH
      have HB1 : Hid (∀ w1 : World, RowR M (.slice yo (y0).length yc) (y0) (x : Int) wr.drew w1 → w1.heap[B]? = wr.heap[B]? ∧ w1.heap[H]? = wr.heap[H]?) := fun w1 hR => by
        have h := hR.of_drew.grown
        exact ⟨h.block B (Array.getElem?_eq_some_iff.1 K5.out).1 (fun e => hnB e.symm), h.block H (Array.getElem?_eq_some_iff.1 K4.out.lb).1 (fun e => hnH e.symm)⟩
      have HC : Hid (∀ w1 : World, RowR M (.slice yo (y0).length yc) (y0) (x : Int) wr.drew w1 → w1.cell? ⟨B, 4, none⟩ = some (.slice (some ⟨H, 0, none⟩) N N) ∧ w1.cell? ⟨H, l, none⟩ = some (.slice yo (y0).length yc)) := fun w1 hR => by
        obtain ⟨e1, e2⟩ := HB1.out w1 hR
        refine ⟨(cells_seven_z (e1.trans K5.out)).1.2.2.2.2.1, ?_⟩
        rw [← hyv, World.cell?_of_block (a := ⟨H, l, none⟩) e2]
        exact (K4.out.cell l hlv).1
      have hzr : M ≤ wr.heap.size := Nat.le_trans HZM.out hbt.out.size
      clear hnB hnH hown00 q0 q1 q2 q3 q4 q5 q6 hE hA
      go_upto_region 11 with fail
      refine wp_region_row M (.slice yo (y0).length yc) (y0) (x : Int) [.val (.pointer (some ⟨B, 4, none⟩)), .val (.slice (some ⟨H, 0, none⟩) N N), .val (.int .i64 (l : Int)), .val (.pointer (some ⟨B, 4, none⟩)), .val (.slice (some ⟨H, 0, none⟩) N N), .val (.int .i64 (l : Int)), .val (.pointer (some ⟨H, l, none⟩)), .val (.slice yo (y0).length yc), .val (.int .i64 (x : Int)),
        .fact (fun v w' => ∃ d, v = .slice (some ⟨d, 0, none⟩) 1 1 ∧ wr.heap.size ≤ d ∧ w'.heap[d]? = some (.cells #[.int .i64 (x : Int)] 3 (0, 0))),
        .fact (fun v w' => ∃ ga cap, v = .slice (some ⟨ga, 0, none⟩) ((y0).length + 1) cap ∧ OwnInts M w' (.slice (some ⟨ga, 0, none⟩) ((y0).length + 1) cap) (y0 ++ [(x : Int)]) ∧ ((Value.slice yo (y0).length yc).ownBlock = some ga ∨ wr.heap.size ≤ ga)),
        .val (.pointer (some ⟨H, l, none⟩))] [_] (by kernel_rfl) (by kernel_rfl) rfl ?kept ?walk
      case kept =>
        exact ⟨fun v w1 w2 hR ⟨d, e, h1, h2⟩ => ⟨d, e, h1, (hR.grown.block d (Array.getElem?_eq_some_iff.1 h2).1 (fun q => by have := (hown0.out.lt d q.symm).2; omega)).trans h2⟩, fun v w1 w2 hR ⟨ga, cap, e, h1, h2⟩ => ⟨ga, cap, e, hR.new _ _ h1, h2⟩, trivial⟩
      case walk =>
        refine wpFactsR_val (by rfl) (fun w1 hL hd K hK => ?_) ?_
        · go_simp
          exact hK _ (RowR.refl _)
        refine wpFactsR_norm (by simp only [Act.put, List.setIfInBounds_toArray, List.set_cons_zero, List.set_cons_succ]; rfl) (by simp only [List.nil_append]; rfl) ?_
        refine wpFactsR_val (by rfl) (fun w1 hL hd K hK => ?_) ?_
        · obtain ⟨d0, d1⟩ := HC.out w1 hL
          go_simp
          exact hK _ (RowR.refl _)
        refine wpFactsR_norm (by simp only [Act.put, List.setIfInBounds_toArray, List.set_cons_zero, List.set_cons_succ]; rfl) (by simp only [List.cons_append, List.nil_append]; rfl) ?_
        refine wpFactsR_val (by rfl) (fun w1 hL hd K hK => ?_) ?_
        · go_simp
          exact hK _ (RowR.refl _)
        refine wpFactsR_norm (by simp only [Act.put, List.setIfInBounds_toArray, List.set_cons_zero, List.set_cons_succ]; rfl) (by simp only [List.cons_append, List.nil_append]; rfl) ?_
        refine wpFactsR_val (by rfl) (fun w1 hL hd K hK => ?_) ?_
        · go_simp
          exact hK _ (RowR.refl _)
        refine wpFactsR_norm (by simp only [Act.put, List.setIfInBounds_toArray, List.set_cons_zero, List.set_cons_succ]; rfl) (by simp only [List.cons_append, List.nil_append]; rfl) ?_
        refine wpFactsR_val (by rfl) (fun w1 hL hd K hK => ?_) ?_
        · obtain ⟨d0, d1⟩ := HC.out w1 hL
          go_simp
          exact hK _ (RowR.refl _)
        refine wpFactsR_norm (by simp only [Act.put, List.setIfInBounds_toArray, List.set_cons_zero, List.set_cons_succ]; rfl) (by simp only [List.cons_append, List.nil_append]; rfl) ?_
        refine wpFactsR_val (by rfl) (fun w1 hL hd K hK => ?_) ?_
        · go_simp
          exact hK _ (RowR.refl _)
        refine wpFactsR_norm (by simp only [Act.put, List.setIfInBounds_toArray, List.set_cons_zero, List.set_cons_succ]; rfl) (by simp only [List.cons_append, List.nil_append]; rfl) ?_
        refine wpFactsR_val (by rfl) (fun w1 hL hd K hK => ?_) ?_
        · go_simp
          exact hK _ (RowR.refl _)
        refine wpFactsR_norm (by simp only [Act.put, List.setIfInBounds_toArray, List.set_cons_zero, List.set_cons_succ]; rfl) (by simp only [List.cons_append, List.nil_append]; rfl) ?_
        refine wpFactsR_val (by rfl) (fun w1 hL hd K hK => ?_) ?_
        · obtain ⟨d0, d1⟩ := HC.out w1 hL
          go_simp
          exact hK _ (RowR.refl _)
        refine wpFactsR_norm (by simp only [Act.put, List.setIfInBounds_toArray, List.set_cons_zero, List.set_cons_succ]; rfl) (by simp only [List.cons_append, List.nil_append]; rfl) ?_
        refine wpFactsR_val (by rfl) (fun w1 hL hd K hK => ?_) ?_
        · go_simp
          exact hK _ (RowR.refl _)
        refine wpFactsR_norm (by simp only [Act.put, List.setIfInBounds_toArray, List.set_cons_zero, List.set_cons_succ]; rfl) (by simp only [List.cons_append, List.nil_append]; rfl) ?_
        refine wpFactsR_fact (by rfl) (fun w1 hL hd K hK => ?_) (fun v10 => ?_)
        · go_simp
          exact hK _ _ (RowR.lat (Below.alloc (Below.refl _ _) (Nat.le_refl _) _)) ⟨_, rfl, hL.of_drew.grown.size, heap_alloc_new _ _⟩
        refine wpFactsR_norm (by simp only [Act.put, List.setIfInBounds_toArray, List.set_cons_zero, List.set_cons_succ]; rfl) (by simp only [List.cons_append, List.nil_append]; rfl) ?_
        refine wpFactsR_fact (by rfl) (fun w1 hL hd K hK => ?_) (fun v11 => ?_)
        · obtain ⟨d, rfl, hd1, hd2⟩ : ∃ d, v10 = .slice (some ⟨d, 0, none⟩) 1 1 ∧ wr.heap.size ≤ d ∧ w1.heap[d]? = some (.cells #[.int .i64 (x : Int)] 3 (0, 0)) := hd.2.1
          have hs1 := hL.of_drew.grown.size
          refine wp_append_row (.tmp 47) (.tmp 49) rfl M (.slice yo (y0).length yc) (y0) rfl (hL.of_drew.old hown0.out) d 1 (x : Int) rfl (by simp [World.cell?, hd2]) (by omega) (by omega) ?_
          intro ga cap w' h1 h2 h3
          exact hK _ _ h2 ⟨ga, cap, rfl, h1, h3.imp id fun h => by omega⟩
        refine wpFactsR_norm (by simp only [Act.put, List.setIfInBounds_toArray, List.set_cons_zero, List.set_cons_succ]; rfl) (by simp only [List.cons_append, List.nil_append]; rfl) ?_
        refine wpFactsR_val (by rfl) (fun w1 hL hd K hK => ?_) ?_
        · go_simp
          exact hK _ (RowR.refl _)
        refine wpFactsR_norm (by simp only [Act.put, List.setIfInBounds_toArray, List.set_cons_zero, List.set_cons_succ]; rfl) (by simp only [List.cons_append, List.nil_append]; rfl) ?_
        intro w1 hL ha
        obtain ⟨ga, cap, rfl, ho2, hgg⟩ : ∃ ga cap, v11 = .slice (some ⟨ga, 0, none⟩) ((y0).length + 1) cap ∧ OwnInts M w1 (.slice (some ⟨ga, 0, none⟩) ((y0).length + 1) cap) (y0 ++ [(x : Int)]) ∧ ((Value.slice yo (y0).length yc).ownBlock = some ga ∨ wr.heap.size ≤ ga) := allHold_get 10 ha rfl rfl
        clear ha
        have hR := hL.of_drew
        obtain ⟨eB, eH⟩ := HB1.out w1 hL
        have hHw : w1.heap[H]? = some (.cells vs.toArray 29 (0, 0)) := eH.trans K4.out.lb
        have f0 : w1.frozen? ⟨H, l, none⟩ = false := by simp [World.frozen?, hHw]
        have hHl := (Array.getElem?_eq_some_iff.1 hHw).1
        have hc2 : w1.cell? ⟨H, l, none⟩ = some vs[l] := by simp [World.cell?, hHw, hlv]
        have hA1 : Hid (Amid M (H :: C :: Bs) w (w1.setCell ⟨H, l, none⟩ (.slice (some ⟨ga, 0, none⟩) ((y0).length + 1) cap))) :=
          ((HA0.out.trans (Amid.more (Amid.butL hbt.out HZM.out) fun k hk => List.mem_cons_of_mem _ hk)).trans (Amid.row hown0.out hR.grown hzr (Nat.le_refl _))).setCell (List.mem_cons_self ..) _ _
        have hG1 : Hid (GAt S C (n + 1) (N * (T + 1)) Bs st' (w1.setCell ⟨H, l, none⟩ (.slice (some ⟨ga, 0, none⟩) ((y0).length + 1) cap))) := by
          have hnH : H ∉ C :: Bs := hG.out.apart (K4.out.cell l hlv).1 (by rw [hyv]; simp)
          have hSH : S ≠ H := fun e => by
            have h1 := hG.out.rs.sb
            rw [e, K4.out.lb] at h1
            exact absurd (Obj.cells.inj (Option.some.inj h1)).2.1 (by decide)
          have key : ∀ k, k < M → k ≠ H → (w1.setCell ⟨H, l, none⟩ (.slice (some ⟨ga, 0, none⟩) ((y0).length + 1) cap)).heap[k]? = wr.heap[k]? := fun k hk hne =>
            (Below.heap_setCell _ _ _ _ hne).trans (hR.grown.block k (by omega) fun e => by have := (hown0.out.lt k e.symm).1; omega)
          refine hG.out.keep (key S LT.out.2.1 hSH) (key C LT.out.2.2.1 fun e => hnH (by rw [e]; exact List.mem_cons_self ..)) fun b hb => key b (LT.out.2.2.2 b hb) fun e => hnH (by rw [← e]; exact List.mem_cons_of_mem _ hb)
        have hL1 : Hid (LAt M H (vs.set l (.slice (some ⟨ga, 0, none⟩) ((y0).length + 1) cap)) (Fi.push hs (l : Int) (x : Int)) (w1.setCell ⟨H, l, none⟩ (.slice (some ⟨ga, 0, none⟩) ((y0).length + 1) cap))) := by
          have hg2 := hR.grown
          rw [← hyv] at hg2 hgg
          exact K4.out.push l ga hlv (x : Int) hg2 (by rw [HY0.out]; exact ho2) rfl hgg
        have hG2 : Hid (GAt S C (n + 1) (N * (T + 1)) Bs (Fo.look nl fs (x : Int) row st) (w1.setCell ⟨H, l, none⟩ (.slice (some ⟨ga, 0, none⟩) (y0.length + 1) cap))) := by
          show GAt _ _ _ _ _ _ _
          rw [LE2.out]; exact hG1.out
        have hL2 : Hid (LAt M H (vs.set l (.slice (some ⟨ga, 0, none⟩) (y0.length + 1) cap)) (Fo.heirs nl (l : Int) (x : Int) row hs) (w1.setCell ⟨H, l, none⟩ (.slice (some ⟨ga, 0, none⟩) (y0.length + 1) cap))) := by
          show LAt _ _ _ _ _
          unfold Fo.heirs
          rw [AE2.out, if_pos rfl]
          exact hL1.out
        clear ho2 hgg hL hR HC HB1 hHw eB eH hown0 hG1 hL1
        go_wp2_with fail
        go_end0
        exact ⟨rfl, hA1, hG2, _, hL2⟩
end Go.Proofs.Ytdocbgfpnaiijaa
