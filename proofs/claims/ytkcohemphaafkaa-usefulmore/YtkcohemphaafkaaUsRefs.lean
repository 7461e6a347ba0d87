/-
  Layer 7 (useful): the document's own spreading: what a symbol reaches by some of the rules.
  Layer 7 (useful): the document's own answers: Reach, Productive.
  Layer 7 (useful): the document's own answers: Productive.
  Layer 7 (useful): the document's own answers: Useful.
-/
import Derived.Test.YtkcohemphaafkaaUsMath2
import Derived.Test.YtkcohemphaafkaaSchRef
import Derived.Test.YtkcohemphaafkaaUsSearch
import Derived.Test.YtkcohemphaafkaaGrRefGood
import Derived.Lib.SliceRun
namespace Go.Proofs.Ytkcohemphaafkaa
open Go.RowKit Go.Conc

theorem by1_one (l s : Int) (b : List Bool) : Nl.by1 b (s, [l]) = if Nl.isAt b l = true then Nl.tell b s else b := by simp [Nl.by1, Nl.allIn]
theorem steps_stay {l : Int} (xs : List Int) {b : List Bool} (h : Nl.isAt b l = false) : (xs.map fun s => (s, [l])).foldl Nl.by1 b = b := by
  induction xs with
  | nil => rfl
  | cons x xs ih => rw [List.map_cons, List.foldl_cons, by1_one, h]; simpa using ih
theorem goOn_step (on : Gr.Rl → Bool) (rs : List Gr.Rl) (b : List Bool) (k : Nat) (h : k < rs.length) : (rs.take (k + 1)).foldl (Us.goOn on) b = Us.goOn on ((rs.take k).foldl (Us.goOn on) b) rs[k] := Gr.take_step _ _ _ _ h
theorem goOn_len (on : Gr.Rl → Bool) (rs : List Gr.Rl) (b : List Bool) : (rs.foldl (Us.goOn on) b).length = b.length := by rw [← Us.pass_flat]; exact (Nl.pass_le _ b).1.symm

set_option maxRecDepth 100000 in
set_option maxHeartbeats 3200000 in
theorem spread7_any (on : Gr.Rl → Bool) (g : Gr.Gm) (A : GA) (y : Nat) (so : Option Addr) (sc : Nat) (w : World) (hsz : g.terms.length + g.names.length ≤ 4000) (hf : Nl.Fit g.terms.length (g.terms.length + g.names.length) g.rules) (hy : y < g.terms.length + g.names.length) (hrc : g.rules.length ≤ 1000) (h8 : ∀ r ∈ g.rules, r.2.length ≤ 4000) (hR : RlsAt w.heap.size w A.ra g.rules) (hS : BoolsAt w.heap.size w so (g.rules.map on)) :
    Calls Try.prog 22 #[.agg (gmCells g A), .int .i64 (y : Int), .slice so g.rules.length sc] w fun e w' => ∃ X, e = .returned (.slice (some ⟨X, 0, none⟩) (g.terms.length + g.names.length) (g.terms.length + g.names.length)) ∧ w.heap.size ≤ X ∧ Hid (w'.heap[X]? = some (.cells ((Nl.nulls (Us.reachC (g.rules.filter on) (y : Int)) (g.terms.length + g.names.length)).map Value.bool).toArray 4 (0, 0))) ∧ Hid (Below w.heap.size w w') := by
  obtain ⟨ta, tc, na, nc, ra, rac⟩ := A
  have HR : Hid (RlsAt w.heap.size w ra g.rules) := hR
  have HS : Hid (BoolsAt w.heap.size w so (g.rules.map on)) := hS
  have H8 : Hid _ := h8
  have HF : Hid _ := hf
  have hyi : (0 : Int) ≤ (y : Int) ∧ (y : Int) < ((g.terms.length + g.names.length : Nat) : Int) := by omega
  have hfs : Nl.Fit g.terms.length (g.terms.length + g.names.length) (g.rules.filter on) := Us.fit_sub hf (fun r hr => (List.mem_filter.1 hr).1)
  have HFF : Hid (Nl.Fit 0 (g.terms.length + g.names.length) ([((y : Int), [])] ++ Us.flat (g.rules.filter on))) := Us.fit_reach hfs hyi
  have R0 : Hid (Us.Rt (g.terms.length + g.names.length) [((y : Int), [])] (Us.flat (g.rules.filter on)) 0 (Nl.tell (List.replicate (g.terms.length + g.names.length) false) (y : Int))) := Us.start_reach hfs hyi
  have hmb := make_bools6 g.terms.length g.names.length hsz
  have hzl : w.heap.size < (w.alloc (Obj.cells #[.slice ta g.terms.length tc, .slice na g.names.length nc, .slice ra g.rules.length rac] 25)).heap.size := by simp
  have hX : (w.alloc (Obj.cells #[.slice ta g.terms.length tc, .slice na g.names.length nc, .slice ra g.rules.length rac] 25)).heap.size = w.heap.size + 1 := by simp
  have HI : Hid (ROInv w ((w.alloc (Obj.cells #[.slice ta g.terms.length tc, .slice na g.names.length nc, .slice ra g.rules.length rac] 25)).alloc (.cells (Array.replicate (g.terms.length + g.names.length) (Value.bool false)) 4)) (w.alloc (Obj.cells #[.slice ta g.terms.length tc, .slice na g.names.length nc, .slice ra g.rules.length rac] 25)).heap.size g ⟨ta, tc, na, nc, ra, rac⟩ (List.replicate (g.terms.length + g.names.length) false)) :=
    ⟨((Below.refl _ w).alloc (Nat.le_refl _) _).alloc (by simp) _, hzl, (Below.heap_alloc _ _ _ hzl).trans (heap_alloc_new w _), by rw [heap_alloc_new]; simp⟩
  rw [hX] at HI
  clear h8 hf hR hS hyi hfs hX hzl
  simp only [gmCells]
  go_enter Try.func22, Try.ntmps22
  go_upto_region 3 with fail
  generalize ((w.alloc (Obj.cells #[.slice ta g.terms.length tc, .slice na g.names.length nc, .slice ra g.rules.length rac] 25)).alloc (.cells (Array.replicate (g.terms.length + g.names.length) (Value.bool false)) 4)) = W2 at *
  generalize w.heap.size + 1 = X at *
  clear hmb
  obtain ⟨d0, d1⟩ := HI.out.cell y (by simpa using hy)
  have HI2 : Hid _ := HI.out.set y
  go_wp2_with fail
  clear d0 d1 HI
  go_loopw [9, 10, 11] (fun i _ _ wr => ∃ (k : Nat) (bs : List Bool), k ≤ g.terms.length + g.names.length ∧ i = .int .i64 k ∧ Hid (ROInv w wr X g ⟨ta, tc, na, nc, ra, rac⟩ bs) ∧ Hid (Us.Rt (g.terms.length + g.names.length) [((y : Int), [])] (Us.flat (g.rules.filter on)) k bs)) (fun i _ _ _ => g.terms.length + g.names.length - (intOf i).toNat)
  case atStart => exact ⟨0, _, Nat.zero_le _, rfl, HI2, R0⟩
  case round =>
    obtain ⟨k, bs, hk, rfl, hA, hRT⟩ := hrel
    clear HI2 R0
    have hln := hRT.out.rd.len
    by_cases hkl : k < g.terms.length + g.names.length
    · have hki : (k : Int) < (g.terms.length : Int) + (g.names.length : Int) := by omega
      have P0 : Hid (ROInv w wr X g ⟨ta, tc, na, nc, ra, rac⟩ ((g.rules.take 0).foldl (Us.goOn on) bs)) := hA
      go_upto_region 8 with fail
      clear hA
      go_loopw [10, 11] (fun i _ wc => ∃ q : Nat, q ≤ g.rules.length ∧ i = .int .i64 q ∧ Hid (ROInv w wc X g ⟨ta, tc, na, nc, ra, rac⟩ ((g.rules.take q).foldl (Us.goOn on) bs))) (fun i _ _ => g.rules.length - (intOf i).toNat)
      case atStart => exact ⟨0, Nat.zero_le _, rfl, P0⟩
      case round =>
        obtain ⟨q, hq, rfl, hA⟩ := hrel
        clear P0
        obtain ⟨g0, g1, g2, _⟩ := cells_three_z hA.out.gb
        simp only at g0 g1 g2
        by_cases hql : q < g.rules.length
        · have hqi : (q : Int) < (g.rules.length : Int) := by omega
          obtain ⟨rb, ro, yo, yc, hra, _, _, y0, y1, yI, _⟩ := HR.out q hql
          subst hra
          obtain ⟨sb, so2, hso, _, _, cS⟩ := HS.out.get q (by simpa using hql)
          subst hso
          rw [List.getElem_map] at cS
          have hmm : g.rules[q] ∈ g.rules := List.getElem_mem hql
          have h8q := H8.out _ hmm
          have hlf := HF.out.left _ hmm
          have hrf := HF.out.right _ hmm
          have ST : Hid _ := goOn_step on g.rules bs q hql
          have hpl := goOn_len on (g.rules.take q) bs
          have HY : Hid (IntsAt w.heap.size w yo g.rules[q].2) := yI
          have EG : Hid (∀ b, Us.goOn on b g.rules[q] = if on g.rules[q] = true then (g.rules[q].2.map fun s => (s, [g.rules[q].1])).foldl Nl.by1 b else b) := fun b => rfl
          clear hmm yI
          generalize on g.rules[q] = ob at *
          generalize g.rules[q] = yy at *
          obtain ⟨yl, yr⟩ := yy
          simp only at y0 y1 HY h8q hlf EG hrf
          obtain ⟨m, rfl⟩ : ∃ m : Nat, yl = m := ⟨yl.toNat, by omega⟩
          generalize hcs : (g.rules.take q).foldl (Us.goOn on) bs = b0 at *
          have hgl : b0.length = g.terms.length + g.names.length := by rw [hpl, hln]
          have HRF : Hid _ := hrf
          have hml : m < g.terms.length + g.names.length := by omega
          have Q0 : Hid (ROInv w wr X g ⟨ta, tc, na, nc, some ⟨rb, ro, none⟩, rac⟩ b0) := hA
          have E0 : Hid (Us.goOn on b0 ((m : Int), yr) = if ob = true then ((yr.drop 0).map fun s => (s, [(m : Int)])).foldl Nl.by1 b0 else b0) := by show _ = _; rw [EG.out, List.drop_zero]
          clear hA EG hcs hpl hrf hlf
          go_upto_region 11 with fail
          clear g0 g1 g2
          go_loopw [11] (fun i wd => ∃ (z : Nat) (cs : List Bool), z ≤ yr.length ∧ i = .int .i64 z ∧ Hid (ROInv w wd X g ⟨ta, tc, na, nc, some ⟨rb, ro, none⟩, rac⟩ cs) ∧ cs.length = g.terms.length + g.names.length ∧ Hid (Us.goOn on b0 ((m : Int), yr) = if ob = true then ((yr.drop z).map fun s => (s, [(m : Int)])).foldl Nl.by1 cs else cs)) (fun i _ => yr.length - (intOf i).toNat)
          case atStart => exact ⟨0, b0, Nat.zero_le _, rfl, Q0, hgl, E0⟩
          case round =>
            obtain ⟨z, cs, hz, rfl, hC, hcl, hE⟩ := hrel
            clear Q0 E0
            obtain ⟨g0, g1, g2, _⟩ := cells_three_z hC.out.gb
            simp only at g0 g1 g2
            have k0 := cell_later hC.out.below y0
            have k1 := cell_later hC.out.below y1
            have kS := cell_later hC.out.below cS
            obtain ⟨d0, d1⟩ := hC.out.cell m (by omega)
            have eT : Nl.isAt cs (m : Int) = cs[m] := by rw [Nl.isAt_get (by omega) (by simp; omega)]; simp
            by_cases hzl : z < yr.length
            · have hzi : (z : Int) < (yr.length : Int) := by omega
              cases ob
              · have N1 : Hid (ROInv w wr X g ⟨ta, tc, na, nc, some ⟨rb, ro, none⟩, rac⟩ ((g.rules.take (q + 1)).foldl (Us.goOn on) bs)) := by
                  rw [ST.out, hE.out]; exact hC
                clear hC hE ST eT
                go_wp2_with fail
                go_roundw
                case rel => exact ⟨q + 1, by omega, by go_num, N1⟩
                case measure => simp [intOf]; omega
              · cases hm2 : cs[m]
                · rw [hm2] at d0 eT
                  have N1 : Hid (ROInv w wr X g ⟨ta, tc, na, nc, some ⟨rb, ro, none⟩, rac⟩ ((g.rules.take (q + 1)).foldl (Us.goOn on) bs)) := by
                    rw [ST.out, hE.out, if_pos rfl, steps_stay _ eT]; exact hC
                  clear hC hE ST eT hm2
                  go_wp2_with fail
                  go_roundw
                  case rel => exact ⟨q + 1, by omega, by go_num, N1⟩
                  case measure => simp [intOf]; omega
                · rw [hm2] at d0 eT
                  obtain ⟨zb, zo, hyo, _, _, kz⟩ := HY.out.get z hzl
                  subst hyo
                  replace kz := cell_later hC.out.below kz
                  have hzr := HRF.out _ (List.getElem_mem hzl)
                  have HD : Hid (yr.drop z = yr[z] :: yr.drop (z + 1)) := List.drop_eq_getElem_cons hzl
                  generalize yr[z] = s at *
                  obtain ⟨s, rfl⟩ : ∃ s' : Nat, s = s' := ⟨s.toNat, by omega⟩
                  obtain ⟨e0, e1⟩ := hC.out.cell s (by omega)
                  have N1 : Hid (ROInv w (wr.setCell ⟨X, s, none⟩ (.bool true)) X g ⟨ta, tc, na, nc, some ⟨rb, ro, none⟩, rac⟩ (Nl.tell cs (s : Int))) := hC.out.set s
                  have N2 : Hid (Us.goOn on b0 ((m : Int), yr) = if true = true then ((yr.drop (z + 1)).map fun s => (s, [(m : Int)])).foldl Nl.by1 (Nl.tell cs (s : Int)) else (Nl.tell cs (s : Int))) := by
                    show _ = _
                    rw [hE.out, if_pos rfl, if_pos rfl, HD.out, List.map_cons, List.foldl_cons, by1_one, eT, if_pos rfl]
                  have N3 : (Nl.tell cs (s : Int)).length = g.terms.length + g.names.length := by rw [Nl.tell_len]; exact hcl
                  clear hC hE ST eT hm2 HD
                  go_wp2_with fail
                  go_roundw
                  case rel => exact ⟨z + 1, _, by omega, by go_num, N1, N3, N2⟩
                  case measure => simp [intOf]; omega
            · have e : z = yr.length := by omega
              subst e
              have N1 : Hid (ROInv w wr X g ⟨ta, tc, na, nc, some ⟨rb, ro, none⟩, rac⟩ ((g.rules.take (q + 1)).foldl (Us.goOn on) bs)) := by
                have e2 : Us.goOn on b0 ((m : Int), yr) = cs := by rw [hE.out, List.drop_length]; simp
                rw [ST.out, e2]; exact hC
              clear hC hE ST eT
              go_wp2_with fail
              go_roundw
              case rel => exact ⟨q + 1, by omega, by go_num, N1⟩
              case measure => simp [intOf]; omega
        · have e : q = g.rules.length := by omega
          subst e
          rw [List.take_length, ← Us.pass_flat] at hA
          have hR2 : Hid _ := hRT.out.step HFF.out
          clear hRT
          go_wp2_with fail
          go_roundw
          case rel => exact ⟨k + 1, _, by omega, by go_num, hA, hR2⟩
          case measure => simp [intOf]; omega
    · have hd := hRT.out.done HFF.out (by omega)
      have hx := hA.out.xb
      rw [hd] at hx
      have HX : Hid _ := hx
      have hl2 := hA.out.lt
      go_wp2_with fail
      go_ret
      exact ⟨X, rfl, by omega, HX, hA.out.below⟩
end Go.Proofs.Ytkcohemphaafkaa

namespace Go.Proofs.Ytkcohemphaafkaa
open Go.RowKit Go.Conc

theorem firsts_set {n k : Nat} (h : k < n) : (Us.firsts n k).set k true = Us.firsts n (k + 1) := by
  have := Us.firsts_tell h
  unfold Nl.tell at this
  rwa [Int.toNat_natCast] at this
theorem firsts_full (rs : List Gr.Rl) : Us.firsts rs.length rs.length = rs.map fun _ => true := by simp [Us.firsts, List.map_const']

set_option maxRecDepth 100000 in
set_option maxHeartbeats 3200000 in
theorem refReach7_is (g : Gr.Gm) (A : GA) (y : Int) (w : World) (hm : ∀ x ∈ g.rules, x.2.length ≤ maxLen) (h : GmAt w.heap.size w g A) :
    Calls Try.prog 11 #[.agg (gmCells g A), .int .i64 y] w fun e w' => ∃ ao c, e = .returned (.slice ao (Us.reach g y).length c) ∧ Hid (BoolsAt w'.heap.size w' ao (Us.reach g y)) ∧ Hid (Below w.heap.size w w') := by
  obtain ⟨ta, tc, na, nc, ra, rac⟩ := A
  have HG : Hid (GmAt w.heap.size w g ⟨ta, tc, na, nc, ra, rac⟩) := h
  have HGD : Hid (∀ (r : Bool) (W : World), Below w.heap.size w W → Gr.good g = r → Calls Try.prog 17 #[.agg (gmCells g ⟨ta, tc, na, nc, ra, rac⟩)] W fun e w' => e = .returned (.bool r) ∧ Below W.heap.size W w') := fun r W hW hr => refGood_any r g _ W hm (h.next hW) (by rw [Gr.refGood_is]; exact hr)
  have hbW : Hid (Below w.heap.size w (w.alloc (Obj.cells #[.slice ta g.terms.length tc, .slice na g.names.length nc, .slice ra g.rules.length rac] 25))) := (Below.refl _ w).alloc (Nat.le_refl _) _
  have B0 : Hid ((w.alloc (Obj.cells #[.slice ta g.terms.length tc, .slice na g.names.length nc, .slice ra g.rules.length rac] 25)).heap[w.heap.size]? = some (.cells #[.slice ta g.terms.length tc, .slice na g.names.length nc, .slice ra g.rules.length rac] 25 (0, 0))) := heap_alloc_new w _
  clear h hm
  simp only [gmCells] at HGD ⊢
  cases hg : Gr.good g
  · have R : Hid (Us.reach g y = []) := Us.reach_no (by simp [hg])
    have HC1 : Hid (∀ _ : Unit, _) := fun _ => HGD.out false _ hbW.out hg
    clear HGD
    go_enter Try.func11, Try.ntmps11
    go_wp2_with (go_at_call 17; refine Calls.mono (HC1.out ()) ?_; rintro e w1 ⟨rfl, hb1⟩)
    go_ret
    refine ⟨none, 0, by rw [R.out]; rfl, ?_, hbW.out.trans (hb1.mono hbW.out.size)⟩
    rw [R.out]; exact CellsAt.nil
  · have HC1 : Hid (∀ _ : Unit, _) := fun _ => HGD.out true _ hbW.out hg
    obtain ⟨hsz, h8⟩ := Nl.sizes_of hg
    have HF : Hid _ := Nl.fit_of hg
    have H8 : Hid (∀ r ∈ g.rules, r.2.length ≤ 4000) := fun r hr => Nat.le_trans (h8 r hr) (by omega)
    have hmb := make_bools7 g.rules.length (by omega)
    have HRC : Hid (∀ hx : 0 ≤ y ∧ y < (Us.all g : Int), Us.reach g y = Nl.nulls (Us.reachC g.rules y) (g.terms.length + g.names.length)) := fun hx => by unfold Us.reach; rw [if_pos ⟨hg, hx⟩]; rfl
    have HRN : Hid (¬ (0 ≤ y ∧ y < ((g.terms.length + g.names.length : Nat) : Int)) → Us.reach g y = []) := fun hx => Us.reach_no (fun q => hx q.2)
    clear HGD h8
    go_enter Try.func11, Try.ntmps11
    go_wp2_with (go_at_call 17; fail)
    generalize (w.alloc (Obj.cells #[.slice ta g.terms.length tc, .slice na g.names.length nc, .slice ra g.rules.length rac] 25)) = W at *
    refine Calls.mono (HC1.out ()) ?_
    rintro e w1 ⟨rfl, hb1⟩
    have B1 : Hid _ := (hb1.block _ (Array.getElem?_eq_some_iff.1 B0.out).1).trans B0.out
    have HB1 : Hid _ := hbW.out.trans (hb1.mono hbW.out.size)
    have hzl := (Array.getElem?_eq_some_iff.1 B1.out).1
    obtain ⟨g0, g1, g2, _⟩ := cells_three_z B1.out
    clear hb1 B0 hbW HC1
    by_cases h0 : y < 0
    · have hd : decide (y < 0) = true := decide_eq_true h0
      have R : Hid (Us.reach g y = []) := HRN.out (by omega)
      clear HRC HRN
      go_wp2_with fail
      go_ret
      refine ⟨none, 0, by rw [R.out]; rfl, ?_, HB1.out⟩
      rw [R.out]; exact CellsAt.nil
    · have hd : decide (y < 0) = false := decide_eq_false h0
      by_cases h1 : y < (g.terms.length : Int) + (g.names.length : Int)
      · obtain ⟨m, rfl⟩ : ∃ m : Nat, y = m := ⟨y.toNat, by omega⟩
        have R : Hid (Us.reach g (m : Int) = Nl.nulls (Us.reachC g.rules (m : Int)) (g.terms.length + g.names.length)) := HRC.out (by unfold Us.all; omega)
        have hmn : m < g.terms.length + g.names.length := by omega
        have hd1 : decide ((g.terms.length : Int) + (g.names.length : Int) ≤ (m : Int)) = false := decide_eq_false (by omega)
        have HI : Hid (ROInv w (w1.alloc (.cells (Array.replicate g.rules.length (Value.bool false)) 4)) w1.heap.size g ⟨ta, tc, na, nc, ra, rac⟩ (Us.firsts g.rules.length 0)) :=
          ⟨HB1.out.alloc HB1.out.size _, hzl, (Below.heap_alloc _ _ _ hzl).trans B1.out, by rw [heap_alloc_new, Us.firsts_zero]; simp⟩
        clear HRC HRN h0 h1
        go_upto_region 4 with fail
        generalize (w1.alloc (.cells (Array.replicate g.rules.length (Value.bool false)) 4)) = W2 at *
        generalize w1.heap.size = X at *
        clear g0 g1 g2 B1 HB1
        go_wp2_with fail
        go_loopw [6] (fun i wr => ∃ k : Nat, k ≤ g.rules.length ∧ i = .int .i64 k ∧ Hid (ROInv w wr X g ⟨ta, tc, na, nc, ra, rac⟩ (Us.firsts g.rules.length k))) (fun i _ => g.rules.length - (intOf i).toNat)
        case atStart => exact ⟨0, Nat.zero_le _, rfl, HI⟩
        case round =>
          obtain ⟨k, hk, rfl, hA⟩ := hrel
          clear HI
          by_cases hkl : k < g.rules.length
          · have hki : (k : Int) < (g.rules.length : Int) := by omega
            obtain ⟨d0, d1⟩ := hA.out.cell k (by rw [Us.firsts_len hk]; exact hkl)
            have N1 : Hid (ROInv w (wr.setCell ⟨X, k, none⟩ (.bool true)) X g ⟨ta, tc, na, nc, ra, rac⟩ (Us.firsts g.rules.length (k + 1))) := by
              have := hA.out.setb k true
              rw [firsts_set hkl] at this; exact this
            clear hA
            go_wp2_with fail
            go_roundw
            case rel => exact ⟨k + 1, by omega, by go_num, N1⟩
            case measure => simp [intOf]; omega
          · have e : k = g.rules.length := by omega
            subst e
            rw [firsts_full] at hA
            have hb := hA.out.below
            have HS : Hid _ := spread7_any (fun _ => true) g ⟨ta, tc, na, nc, ra, rac⟩ m (some ⟨X, 0, none⟩) g.rules.length wr (by omega) HF.out hmn (by omega) H8.out (HG.out.next hb).rules (by have := hA.out.bools; exact this)
            have eF : g.rules.filter (fun _ => true) = g.rules := List.filter_eq_self.2 fun _ _ => rfl
            rw [eF] at HS
            simp only [gmCells] at HS
            have HBR : Hid _ := hb
            obtain ⟨g0, g1, g2, _⟩ := cells_three_z hA.out.gb
            simp only at g0 g1 g2
            clear hA hb eF
            go_wp2_with (go_at_call 22; fail)
            refine Calls.mono HS.out ?_
            rintro e w9 ⟨Y, rfl, hY, hy, hb9⟩
            have hbs : Hid _ := bools_block hy.out
            have HB9 : Hid _ := HBR.out.trans (hb9.out.mono HBR.out.size)
            clear g0 g1 g2 HS hy hb9
            go_wp2_with fail
            go_ret
            refine ⟨some ⟨Y, 0, none⟩, g.terms.length + g.names.length, ?_, ?_, HB9.out⟩
            · rw [R.out, Nl.nulls_len]; rfl
            · rw [R.out]; exact hbs.out
      · have hd1 : decide ((g.terms.length : Int) + (g.names.length : Int) ≤ y) = true := decide_eq_true (by omega)
        have R : Hid (Us.reach g y = []) := HRN.out (by omega)
        clear HRC HRN
        go_wp2_with fail
        go_ret
        refine ⟨none, 0, by rw [R.out]; rfl, ?_, HB1.out⟩
        rw [R.out]; exact CellsAt.nil
end Go.Proofs.Ytkcohemphaafkaa

namespace Go.Proofs.Ytkcohemphaafkaa
open Go.RowKit Go.Conc

set_option maxRecDepth 100000 in
set_option maxHeartbeats 3200000 in
theorem refProd7_no (g : Gr.Gm) (A : GA) (w : World) (hm : ∀ x ∈ g.rules, x.2.length ≤ maxLen) (h : GmAt w.heap.size w g A) (hg : Gr.good g = false) :
    Calls Try.prog 13 #[.agg (gmCells g A)] w fun e w' => e = .returned (.slice none 0 0) ∧ Hid (Below w.heap.size w w') := by
  obtain ⟨ta, tc, na, nc, ra, rac⟩ := A
  have hbW : Hid (Below w.heap.size w (w.alloc (Obj.cells #[.slice ta g.terms.length tc, .slice na g.names.length nc, .slice ra g.rules.length rac] 25))) := (Below.refl _ w).alloc (Nat.le_refl _) _
  have HC1 : Hid (Calls Try.prog 17 #[.agg (gmCells g ⟨ta, tc, na, nc, ra, rac⟩)] (w.alloc (Obj.cells #[.slice ta g.terms.length tc, .slice na g.names.length nc, .slice ra g.rules.length rac] 25)) fun e w' => e = .returned (.bool false) ∧ Below (w.alloc (Obj.cells #[.slice ta g.terms.length tc, .slice na g.names.length nc, .slice ra g.rules.length rac] 25)).heap.size (w.alloc (Obj.cells #[.slice ta g.terms.length tc, .slice na g.names.length nc, .slice ra g.rules.length rac] 25)) w') := refGood_any false g _ _ hm (h.next hbW.out) (by rw [Gr.refGood_is]; exact hg)
  clear h hm hg
  simp only [gmCells] at HC1 ⊢
  go_enter Try.func13, Try.ntmps13
  go_wp2_with (go_at_call 17; refine Calls.mono HC1.out ?_; rintro e w1 ⟨rfl, hb1⟩)
  go_ret
  exact ⟨rfl, hbW.out.trans (hb1.mono hbW.out.size)⟩

set_option maxRecDepth 100000 in
set_option maxHeartbeats 3200000 in
theorem refProd7_yes (g : Gr.Gm) (A : GA) (w : World) (hm : ∀ x ∈ g.rules, x.2.length ≤ maxLen) (h : GmAt w.heap.size w g A) (hg : Gr.good g = true) :
    Calls Try.prog 13 #[.agg (gmCells g A)] w fun e w' => ∃ X, e = .returned (.slice (some ⟨X, 0, none⟩) (g.terms.length + g.names.length) (g.terms.length + g.names.length)) ∧ Hid (BoolsAt w'.heap.size w' (some ⟨X, 0, none⟩) (Us.prod g)) ∧ Hid (Below w.heap.size w w') := by
  obtain ⟨ta, tc, na, nc, ra, rac⟩ := A
  have HG : Hid (GmAt w.heap.size w g ⟨ta, tc, na, nc, ra, rac⟩) := h
  have hbW : Hid (Below w.heap.size w (w.alloc (Obj.cells #[.slice ta g.terms.length tc, .slice na g.names.length nc, .slice ra g.rules.length rac] 25))) := (Below.refl _ w).alloc (Nat.le_refl _) _
  have HC1 : Hid (Calls Try.prog 17 #[.agg (gmCells g ⟨ta, tc, na, nc, ra, rac⟩)] (w.alloc (Obj.cells #[.slice ta g.terms.length tc, .slice na g.names.length nc, .slice ra g.rules.length rac] 25)) fun e w' => e = .returned (.bool true) ∧ Below (w.alloc (Obj.cells #[.slice ta g.terms.length tc, .slice na g.names.length nc, .slice ra g.rules.length rac] 25)).heap.size (w.alloc (Obj.cells #[.slice ta g.terms.length tc, .slice na g.names.length nc, .slice ra g.rules.length rac] 25)) w') := refGood_any true g _ _ hm (h.next hbW.out) (by rw [Gr.refGood_is]; exact hg)
  have B0 : Hid ((w.alloc (Obj.cells #[.slice ta g.terms.length tc, .slice na g.names.length nc, .slice ra g.rules.length rac] 25)).heap[w.heap.size]? = some (.cells #[.slice ta g.terms.length tc, .slice na g.names.length nc, .slice ra g.rules.length rac] 25 (0, 0))) := heap_alloc_new w _
  have R : Hid (Us.prod g = Nl.nulls (Us.terms g.terms.length ++ g.rules) (g.terms.length + g.names.length)) := by show _ = _; unfold Us.prod; rw [if_pos hg]; rfl
  obtain ⟨hsz, h8⟩ := Nl.sizes_of hg
  have HF : Hid (Nl.Fit g.terms.length (g.terms.length + g.names.length) g.rules) := Nl.fit_of hg
  have HFP : Hid (Nl.Fit 0 (g.terms.length + g.names.length) (Us.terms g.terms.length ++ g.rules)) := Us.fit_prod (Nl.fit_of hg) (by omega)
  have R0 : Hid (Us.Rt (g.terms.length + g.names.length) (Us.terms g.terms.length) g.rules 0 (Us.firsts (g.terms.length + g.names.length) g.terms.length)) := Us.start_prod (by omega)
  have H8 : Hid _ := h8
  have hmb := make_bools6 g.terms.length g.names.length (by omega)
  clear h hm h8 hg
  simp only [gmCells] at HC1 ⊢
  go_enter Try.func13, Try.ntmps13
  go_wp2_with (go_at_call 17; fail)
  generalize (w.alloc (Obj.cells #[.slice ta g.terms.length tc, .slice na g.names.length nc, .slice ra g.rules.length rac] 25)) = W at *
  refine Calls.mono HC1.out ?_
  rintro e w1 ⟨rfl, hb1⟩
  have B1 : Hid _ := (hb1.block _ (Array.getElem?_eq_some_iff.1 B0.out).1).trans B0.out
  have HB1 : Hid _ := hbW.out.trans (hb1.mono hbW.out.size)
  have hzl := (Array.getElem?_eq_some_iff.1 B1.out).1
  obtain ⟨g0, g1, g2, _⟩ := cells_three_z B1.out
  have HI : Hid (ROInv w (w1.alloc (.cells (Array.replicate (g.terms.length + g.names.length) (Value.bool false)) 4)) w1.heap.size g ⟨ta, tc, na, nc, ra, rac⟩ (Us.firsts (g.terms.length + g.names.length) 0)) :=
    ⟨HB1.out.alloc HB1.out.size _, hzl, (Below.heap_alloc _ _ _ hzl).trans B1.out, by rw [heap_alloc_new, Us.firsts_zero]; simp⟩
  clear hb1 B0 hbW HC1 B1 HB1
  go_upto_region 5 with fail
  generalize (w1.alloc (.cells (Array.replicate (g.terms.length + g.names.length) (Value.bool false)) 4)) = W2 at *
  generalize w1.heap.size = X at *
  clear g0 g1 g2 hmb
  go_wp2_with fail
  go_loopw [5] (fun i wr => ∃ k : Nat, k ≤ g.terms.length ∧ i = .int .i64 k ∧ Hid (ROInv w wr X g ⟨ta, tc, na, nc, ra, rac⟩ (Us.firsts (g.terms.length + g.names.length) k))) (fun i _ => g.terms.length - (intOf i).toNat)
  case atStart => exact ⟨0, Nat.zero_le _, rfl, HI⟩
  case round =>
    obtain ⟨k, hk, rfl, hA⟩ := hrel
    clear HI
    obtain ⟨g0, g1, g2, _⟩ := cells_three_z hA.out.gb
    simp only at g0 g1 g2
    by_cases hkl : k < g.terms.length
    · have hki : (k : Int) < (g.terms.length : Int) := by omega
      obtain ⟨d0, d1⟩ := hA.out.cell k (by rw [Us.firsts_len (by omega)]; omega)
      have N1 : Hid (ROInv w (wr.setCell ⟨X, k, none⟩ (.bool true)) X g ⟨ta, tc, na, nc, ra, rac⟩ (Us.firsts (g.terms.length + g.names.length) (k + 1))) := by
        have := hA.out.set k
        rw [Us.firsts_tell (by omega)] at this; exact this
      clear hA
      go_wp2_with fail
      go_roundw
      case rel => exact ⟨k + 1, by omega, by go_num, N1⟩
      case measure => simp [intOf]; omega
    · have e : k = g.terms.length := by omega
      subst e
      have R1 : Hid (ROInv w wr X g ⟨ta, tc, na, nc, ra, rac⟩ (Us.firsts (g.terms.length + g.names.length) g.terms.length)) := hA
      clear hA
      go_wp2_with fail
      clear g0 g1 g2
      go_loopw [6, 7, 8, 9] (fun i _ _ _ wr => ∃ (k : Nat) (bs : List Bool), k ≤ g.terms.length + g.names.length ∧ i = .int .i64 k ∧ Hid (ROInv w wr X g ⟨ta, tc, na, nc, ra, rac⟩ bs) ∧ Hid (Us.Rt (g.terms.length + g.names.length) (Us.terms g.terms.length) g.rules k bs)) (fun i _ _ _ _ => g.terms.length + g.names.length - (intOf i).toNat)
      case atStart => exact ⟨0, _, Nat.zero_le _, rfl, R1, R0⟩
      case round =>
        obtain ⟨k, bs, hk, rfl, hA, hRT⟩ := hrel
        clear R1 R0
        have hln := hRT.out.rd.len
        by_cases hkl : k < g.terms.length + g.names.length
        · have hki : (k : Int) < (g.terms.length : Int) + (g.names.length : Int) := by omega
          have P0 : Hid (ROInv w wr X g ⟨ta, tc, na, nc, ra, rac⟩ ((g.rules.take 0).foldl Nl.by1 bs)) := hA
          go_upto_region 13 with fail
          clear hA
          go_loopw [7, 8, 9] (fun i _ _ wc => ∃ q : Nat, q ≤ g.rules.length ∧ i = .int .i64 q ∧ Hid (ROInv w wc X g ⟨ta, tc, na, nc, ra, rac⟩ ((g.rules.take q).foldl Nl.by1 bs))) (fun i _ _ _ => g.rules.length - (intOf i).toNat)
          case atStart => exact ⟨0, Nat.zero_le _, rfl, P0⟩
          case round =>
            obtain ⟨q, hq, rfl, hA⟩ := hrel
            clear P0
            obtain ⟨g0, g1, g2, _⟩ := cells_three_z hA.out.gb
            simp only at g0 g1 g2
            by_cases hql : q < g.rules.length
            · have hqi : (q : Int) < (g.rules.length : Int) := by omega
              obtain ⟨rb, ro, yo, yc, hra, _, _, y0, y1, yI, _⟩ := HG.out.rules q hql
              simp only at hra
              subst hra
              have hmm : g.rules[q] ∈ g.rules := List.getElem_mem hql
              have h8q := H8.out _ hmm
              have hlf := HF.out.left _ hmm
              have HRF : Hid _ := HF.out.right _ hmm
              have ST : Hid _ := pass_step g.rules bs q hql
              have hpl := pass_len (g.rules.take q) bs
              have HY : Hid (IntsAt w.heap.size w yo g.rules[q].2) := yI
              clear hmm yI
              generalize g.rules[q] = yy at *
              obtain ⟨yl, yr⟩ := yy
              simp only at y0 y1 HY h8q hlf HRF
              obtain ⟨m, rfl⟩ : ∃ m : Nat, yl = m := ⟨yl.toNat, by omega⟩
              replace y0 := cell_later hA.out.below y0
              replace y1 := cell_later hA.out.below y1
              have HYR : Hid (IntsAt w.heap.size wr yo yr) := HY.out.later hA.out.below
              generalize hcs : (g.rules.take q).foldl Nl.by1 bs = cs at *
              have hgl : cs.length = g.terms.length + g.names.length := by rw [hpl, hln]
              have hml : m < g.terms.length + g.names.length := by omega
              have hml2 : m < cs.length := by omega
              obtain ⟨d0, d1⟩ := hA.out.cell m hml2
              have HCE : Hid (∀ (k : Nat) (hk : k < cs.length), wr.cell? ⟨X, k, none⟩ = some (.bool cs[k])) := fun k hk => (hA.out.cell k hk).1
              have N0 : Hid (Nl.allIn cs yr = false → ROInv w wr X g ⟨ta, tc, na, nc, some ⟨rb, ro, none⟩, rac⟩ ((g.rules.take (q + 1)).foldl Nl.by1 bs)) := fun ha => by
                rw [ST.out]
                have : Nl.by1 cs ((m : Int), yr) = cs := by unfold Nl.by1; rw [if_neg (by simp [ha])]
                rw [this]; exact hA.out
              have N1 : Hid (Nl.allIn cs yr = true → ROInv w (wr.setCell ⟨X, m, none⟩ (.bool true)) X g ⟨ta, tc, na, nc, some ⟨rb, ro, none⟩, rac⟩ ((g.rules.take (q + 1)).foldl Nl.by1 bs)) := fun ha => by
                rw [ST.out]
                have : Nl.by1 cs ((m : Int), yr) = Nl.tell cs (m : Int) := by unfold Nl.by1; rw [if_pos ha]
                rw [this]; exact hA.out.set m
              have E0 : Hid (Nl.allIn cs yr = (true && Nl.allIn cs (yr.drop 0))) := by show _ = _; rw [List.drop_zero]; rfl
              clear hA ST hcs hlf HY
              go_upto_region 17 with fail
              go_loop [8, 9] (fun ok i => ∃ (z : Nat) (okb : Bool), z ≤ yr.length ∧ i = .int .i64 z ∧ ok = .bool okb ∧ Hid (Nl.allIn cs yr = (okb && Nl.allIn cs (yr.drop z)))) (fun _ i => yr.length - (intOf i).toNat)
              case atStart => exact ⟨0, true, Nat.zero_le _, rfl, rfl, E0⟩
              case round =>
                obtain ⟨z, okb, hz, rfl, rfl, hE⟩ := hrel
                clear E0
                by_cases hzl : z < yr.length
                · have hzi : (z : Int) < (yr.length : Int) := by omega
                  have hE2 := hE.out
                  rw [allIn_drop cs yr z hzl] at hE2
                  cases okb
                  · have N2 : Hid (Nl.allIn cs yr = (false && Nl.allIn cs (yr.drop (z + 1)))) := by show _ = _; rw [hE2]; rfl
                    clear hE hE2
                    go_wp2_with fail
                    go_round
                    case rel => exact ⟨z + 1, false, by omega, by go_num, rfl, N2⟩
                    case measure => simp [intOf]; omega
                  · obtain ⟨zb, zo, hyo, _, _, kz⟩ := HYR.out.get z hzl
                    subst hyo
                    have hzr := HRF.out _ (List.getElem_mem hzl)
                    generalize yr[z] = s at *
                    obtain ⟨s, rfl⟩ : ∃ s' : Nat, s = s' := ⟨s.toNat, by omega⟩
                    have e0 := HCE.out s (by omega)
                    have eS : Nl.isAt cs (s : Int) = cs[s] := by rw [Nl.isAt_get (by omega) (by simp; omega)]; simp
                    rw [eS] at hE2
                    have N2 : Hid (Nl.allIn cs yr = (cs[s] && Nl.allIn cs (yr.drop (z + 1)))) := by show _ = _; rw [hE2, Bool.true_and]
                    clear hE hE2 eS
                    generalize cs[s] = ob at *
                    go_wp2_with fail
                    go_round
                    case rel => exact ⟨z + 1, ob, by omega, by go_num, rfl, N2⟩
                    case measure => simp [intOf]; omega
                · have e : z = yr.length := by omega
                  subst e
                  have hE2 := hE.out
                  rw [List.drop_length, show Nl.allIn cs [] = true from rfl, Bool.and_true] at hE2
                  cases okb
                  · have N2 : Hid _ := N0.out hE2
                    clear hE hE2 N0 N1 HCE
                    go_wp2_with fail
                    go_roundw
                    case rel => exact ⟨q + 1, by omega, by go_num, N2⟩
                    case measure => simp [intOf]; omega
                  · have N2 : Hid _ := N1.out hE2
                    clear hE hE2 N0 N1 HCE
                    go_wp2_with fail
                    go_roundw
                    case rel => exact ⟨q + 1, by omega, by go_num, N2⟩
                    case measure => simp [intOf]; omega
            · have e : q = g.rules.length := by omega
              subst e
              rw [List.take_length] at hA
              have hR2 : Hid _ := hRT.out.step HFP.out
              clear hRT
              go_wp2_with fail
              go_roundw
              case rel => exact ⟨k + 1, _, by omega, by go_num, hA, hR2⟩
              case measure => simp [intOf]; omega
        · have hd := hRT.out.done HFP.out (by omega)
          have hx := hA.out.bools
          rw [hd] at hx
          have HX : Hid _ := hx
          have HB : Hid _ := hA.out.below
          clear hA hRT hx hd
          go_wp2_with fail
          go_ret
          exact ⟨X, rfl, by rw [R.out]; exact HX.out, HB.out⟩

theorem refProd7_is (g : Gr.Gm) (A : GA) (w : World) (hm : ∀ x ∈ g.rules, x.2.length ≤ maxLen) (h : GmAt w.heap.size w g A) :
    Calls Try.prog 13 #[.agg (gmCells g A)] w fun e w' => ∃ ao c, e = .returned (.slice ao (Us.prod g).length c) ∧ Hid (BoolsAt w'.heap.size w' ao (Us.prod g)) ∧ Hid (Below w.heap.size w w') := by
  cases hg : Gr.good g
  · refine (refProd7_no g A w hm h hg).mono ?_
    rintro e w' ⟨rfl, hb⟩
    have R := Us.prod_no hg
    refine ⟨none, 0, by rw [R]; rfl, ?_, hb⟩
    rw [R]; exact CellsAt.nil
  · refine (refProd7_yes g A w hm h hg).mono ?_
    rintro e w' ⟨X, rfl, hx, hb⟩
    exact ⟨some ⟨X, 0, none⟩, g.terms.length + g.names.length, by rw [Us.prod_len hg]; rfl, hx, hb⟩
end Go.Proofs.Ytkcohemphaafkaa

namespace Go.Proofs.Ytkcohemphaafkaa
open Go.RowKit Go.Conc

namespace Us
/-- of the first k rules, whether they are 'on' -/
def marks (on : Gr.Rl → Bool) (rs : List Gr.Rl) (k : Nat) : List Bool := (rs.take k).map on ++ List.replicate (rs.length - k) false
theorem marks_zero (on : Gr.Rl → Bool) (rs : List Gr.Rl) : marks on rs 0 = List.replicate rs.length false := by simp [marks]
theorem marks_full (on : Gr.Rl → Bool) (rs : List Gr.Rl) : marks on rs rs.length = rs.map on := by simp [marks]
theorem marks_len {on : Gr.Rl → Bool} {rs : List Gr.Rl} {k : Nat} (h : k ≤ rs.length) : (marks on rs k).length = rs.length := by simp [marks]; omega
theorem marks_set (on : Gr.Rl → Bool) (rs : List Gr.Rl) (k : Nat) (h : k < rs.length) : (marks on rs k).set k (on rs[k]) = marks on rs (k + 1) := by
  unfold marks
  rw [show rs.length - k = (rs.length - (k + 1)) + 1 from by omega, List.replicate_succ, List.set_append_right _ _ (by rw [List.length_map, List.length_take]; omega), List.take_add_one, List.getElem?_eq_getElem h]
  have : k - ((rs.take k).map on).length = 0 := by rw [List.length_map, List.length_take]; omega
  rw [this, List.set_cons_zero, List.map_append, List.append_assoc]; rfl
/-- the first k of the one, the rest of the other -/
def mix (a b : List Bool) (k : Nat) : List Bool := a.take k ++ b.drop k
theorem mix_zero (a b : List Bool) : mix a b 0 = b := by simp [mix]
theorem mix_full {a b : List Bool} {k : Nat} (ha : a.length ≤ k) (hb : b.length ≤ k) : mix a b k = a := by
  unfold mix; rw [List.take_of_length_le ha, List.drop_of_length_le hb, List.append_nil]
theorem mix_len {a b : List Bool} {k : Nat} (h : a.length = b.length) (hk : k ≤ a.length) : (mix a b k).length = b.length := by simp [mix]; omega
theorem mix_get {a b : List Bool} {k : Nat} (hk : k ≤ a.length) (hb : k < b.length) (h : k < (mix a b k).length) : (mix a b k)[k] = b[k] := by
  apply Option.some.inj
  have e : k - (a.take k).length = 0 := by rw [List.length_take]; omega
  rw [← List.getElem?_eq_getElem h, ← List.getElem?_eq_getElem hb]
  unfold mix
  rw [List.getElem?_append_right (by rw [List.length_take]; omega), e, List.getElem?_drop, Nat.add_zero]
theorem mix_set {a b : List Bool} {k : Nat} (hb : a.length = b.length) (h : k < a.length) : (mix a b k).set k a[k] = mix a b (k + 1) := by
  unfold mix
  have e : k - (a.take k).length = 0 := by rw [List.length_take]; omega
  rw [List.set_append_right _ _ (by rw [List.length_take]; omega), e, List.drop_eq_getElem_cons (by omega : k < b.length), List.set_cons_zero, List.take_add_one, List.getElem?_eq_getElem h, List.append_assoc]
  rfl
end Us

set_option maxRecDepth 100000 in
set_option maxHeartbeats 3200000 in
theorem refUse7_is (g : Gr.Gm) (A : GA) (w : World) (hm : ∀ x ∈ g.rules, x.2.length ≤ maxLen) (h : GmAt w.heap.size w g A) :
    Calls Try.prog 15 #[.agg (gmCells g A)] w fun e w' => ∃ ao c, e = .returned (.slice ao (Us.use g).length c) ∧ Hid (BoolsAt w'.heap.size w' ao (Us.use g)) ∧ Hid (Below w.heap.size w w') := by
  obtain ⟨ta, tc, na, nc, ra, rac⟩ := A
  have HG : Hid (GmAt w.heap.size w g ⟨ta, tc, na, nc, ra, rac⟩) := h
  have hbW : Hid (Below w.heap.size w (w.alloc (Obj.cells #[.slice ta g.terms.length tc, .slice na g.names.length nc, .slice ra g.rules.length rac] 25))) := (Below.refl _ w).alloc (Nat.le_refl _) _
  have B0 : Hid ((w.alloc (Obj.cells #[.slice ta g.terms.length tc, .slice na g.names.length nc, .slice ra g.rules.length rac] 25)).heap[w.heap.size]? = some (.cells #[.slice ta g.terms.length tc, .slice na g.names.length nc, .slice ra g.rules.length rac] 25 (0, 0))) := heap_alloc_new w _
  cases hg : Gr.good g
  · have R : Hid (Us.use g = []) := Us.use_no hg
    have HC1 : Hid _ := refProd7_no g ⟨ta, tc, na, nc, ra, rac⟩ _ hm (h.next hbW.out) hg
    clear h hm
    simp only [gmCells] at HC1 ⊢
    have qT : ∀ (w : World) (a : Option Addr) (n c n' c' : Nat), (binOp .eql 30 (.slice a n c) (.slice none n' c')).run Try.prog w = .ok (.bool a.isNone) w := fun w a n c n' c' => Lib.run_eql_slice_nil w _ _ a n c n' c' Try.underlying30
    go_enter Try.func15, Try.ntmps15
    go_wp2_with (go_at_call 13; refine Calls.mono HC1.out ?_; rintro e w1 ⟨rfl, hb1⟩)
    go_ret
    refine ⟨none, 0, by rw [R.out]; rfl, ?_, hbW.out.trans (hb1.out.mono hbW.out.size)⟩
    rw [R.out]; exact CellsAt.nil
  · have HC1 : Hid _ := refProd7_yes g ⟨ta, tc, na, nc, ra, rac⟩ _ hm (h.next hbW.out) hg
    obtain ⟨hsz, h8⟩ := Nl.sizes_of hg
    have HF : Hid (Nl.Fit g.terms.length (g.terms.length + g.names.length) g.rules) := Nl.fit_of hg
    have H8 : Hid (∀ r ∈ g.rules, r.2.length ≤ 4000) := fun r hr => Nat.le_trans (h8 r hr) (by omega)
    have hmb := make_bools7 g.rules.length (by omega)
    have hpl : (Us.prod g).length = g.terms.length + g.names.length := Us.prod_len hg
    have hul : (Us.use g).length = g.terms.length + g.names.length := Us.use_len hg
    have HU : Hid (∀ (k : Nat) (h1 : k < (Us.use g).length) (h2 : k < (Nl.nulls (Us.reachC (g.rules.filter fun r => Nl.allIn (Us.prod g) r.2) (g.terms.length : Int)) (g.terms.length + g.names.length)).length) (h3 : k < (Us.prod g).length) (h4 : g.terms.length < (Us.prod g).length), (Us.use g)[k] = ((Nl.nulls (Us.reachC (g.rules.filter fun r => Nl.allIn (Us.prod g) r.2) (g.terms.length : Int)) (g.terms.length + g.names.length))[k] && (Us.prod g)[k] && (Us.prod g)[g.terms.length])) := fun k h1 h2 h3 h4 => by
      have e2 := congrArg (fun l => l[k]?) (Us.useful_is hg)
      rw [List.getElem?_eq_getElem h1, List.getElem?_map, List.getElem?_range (by have := hul; unfold Us.all; omega)] at e2
      have e3 := Option.some.inj e2
      rw [e3]
      show ((Nl.nulls (Us.reachC (g.rules.filter fun r => Nl.allIn (Us.prod g) r.2) (g.terms.length : Int)) (g.terms.length + g.names.length)).getD k false && (Us.prod g).getD k false && Nl.isAt (Us.prod g) (g.terms.length : Int)) = _
      have eT : Nl.isAt (Us.prod g) (g.terms.length : Int) = (Us.prod g)[g.terms.length] := by rw [Nl.isAt_get (by omega) (by simpa using h4)]; simp
      rw [eT]
      rw [List.getD_eq_getElem?_getD, List.getD_eq_getElem?_getD, List.getElem?_eq_getElem h2, List.getElem?_eq_getElem h3]; rfl
    clear h hm h8 hg
    simp only [gmCells] at HC1 ⊢
    have qT : ∀ (w : World) (a : Option Addr) (n c n' c' : Nat), (binOp .eql 30 (.slice a n c) (.slice none n' c')).run Try.prog w = .ok (.bool a.isNone) w := fun w a n c n' c' => Lib.run_eql_slice_nil w _ _ a n c n' c' Try.underlying30
    go_enter Try.func15, Try.ntmps15
    go_wp2_with (go_at_call 13; fail)
    generalize (w.alloc (Obj.cells #[.slice ta g.terms.length tc, .slice na g.names.length nc, .slice ra g.rules.length rac] 25)) = W at *
    refine Calls.mono HC1.out ?_
    rintro e w1 ⟨PX, rfl, hp1, hb1⟩
    have B1 : Hid _ := (hb1.out.block _ (Array.getElem?_eq_some_iff.1 B0.out).1).trans B0.out
    have HB1 : Hid _ := hbW.out.trans (hb1.out.mono hbW.out.size)
    have hzl := (Array.getElem?_eq_some_iff.1 B1.out).1
    obtain ⟨g0, g1, g2, _⟩ := cells_three_z B1.out
    have HP : Hid (∀ (V : World), Below w1.heap.size w1 V → ∀ k (hk : k < (Us.prod g).length), V.cell? ⟨PX, k, none⟩ = some (.bool (Us.prod g)[k])) := fun V hV k hk => by
      obtain ⟨b, o, e, _, _, c⟩ := (hp1.out.later hV).get k hk
      cases e
      rw [Nat.zero_add] at c; exact c
    generalize hpp : Us.prod g = p at *
    have HI : Hid (ROInv w (w1.alloc (.cells (Array.replicate g.rules.length (Value.bool false)) 4)) w1.heap.size g ⟨ta, tc, na, nc, ra, rac⟩ (Us.marks (fun r => Nl.allIn p r.2) g.rules 0)) :=
      ⟨HB1.out.alloc HB1.out.size _, hzl, (Below.heap_alloc _ _ _ hzl).trans B1.out, by rw [heap_alloc_new, Us.marks_zero]; simp⟩
    have HJ : Hid (Below w1.heap.size w1 (w1.alloc (.cells (Array.replicate g.rules.length (Value.bool false)) 4))) := (Below.refl _ w1).alloc (Nat.le_refl _) _
    have hX : w1.heap.size ≤ w1.heap.size := Nat.le_refl _
    clear hb1 B0 hbW HC1 hp1
    go_upto_region 5 with fail
    generalize (w1.alloc (.cells (Array.replicate g.rules.length (Value.bool false)) 4)) = W2 at *
    generalize hXe : w1.heap.size = X at HI ⊢
    have hX : w1.heap.size ≤ X := by omega
    clear g0 g1 g2 hmb hXe
    go_wp2_with fail
    go_loopw [5, 6] (fun i _ wr => ∃ k : Nat, k ≤ g.rules.length ∧ i = .int .i64 k ∧ Hid (ROInv w wr X g ⟨ta, tc, na, nc, ra, rac⟩ (Us.marks (fun r => Nl.allIn p r.2) g.rules k)) ∧ Hid (Below w1.heap.size w1 wr)) (fun i _ _ => g.rules.length - (intOf i).toNat)
    case atStart => exact ⟨0, Nat.zero_le _, rfl, HI, HJ⟩
    case round =>
      obtain ⟨k, hk, rfl, hA, hJ⟩ := hrel
      clear HI HJ
      by_cases hkl : k < g.rules.length
      · have hki : (k : Int) < (g.rules.length : Int) := by omega
        obtain ⟨rb, ro, yo, yc, hra, _, _, y0, y1, yI, _⟩ := HG.out.rules k hkl
        simp only at hra
        subst hra
        have hmm : g.rules[k] ∈ g.rules := List.getElem_mem hkl
        have h8q := H8.out _ hmm
        have HRF : Hid _ := HF.out.right _ hmm
        have ST : Hid _ := Us.marks_set (fun r => Nl.allIn p r.2) g.rules k hkl
        have hml : (Us.marks (fun r => Nl.allIn p r.2) g.rules k).length = g.rules.length := Us.marks_len hk
        have HY : Hid (IntsAt w.heap.size w yo g.rules[k].2) := yI
        clear hmm yI
        generalize g.rules[k] = yy at *
        obtain ⟨yl, yr⟩ := yy
        simp only at y0 y1 HY h8q HRF ST
        generalize Us.marks (fun r => Nl.allIn p r.2) g.rules k = mk at *
        obtain ⟨d0, d1⟩ := hA.out.cell k (by omega)
        have N0 : Hid (ROInv w (wr.setCell ⟨X, k, none⟩ (.bool true)) X g ⟨ta, tc, na, nc, some ⟨rb, ro, none⟩, rac⟩ (mk.set k true)) := hA.out.setb k true
        have J0 : Hid (Below w1.heap.size w1 (wr.setCell ⟨X, k, none⟩ (.bool true))) := hJ.out.setCell hX _
        have E0 : Hid (Nl.allIn p yr = (true && Nl.allIn p (yr.drop 0))) := by show _ = _; rw [List.drop_zero]; rfl
        clear hA hJ
        go_wp2_with fail
        clear d0 d1
        go_loopw [6] (fun i wc => ∃ (z : Nat) (okb : Bool), z ≤ yr.length ∧ i = .int .i64 z ∧ Hid (ROInv w wc X g ⟨ta, tc, na, nc, some ⟨rb, ro, none⟩, rac⟩ (mk.set k okb)) ∧ Hid (Below w1.heap.size w1 wc) ∧ Hid (Nl.allIn p yr = (okb && Nl.allIn p (yr.drop z)))) (fun i _ => yr.length - (intOf i).toNat)
        case atStart => exact ⟨0, true, Nat.zero_le _, rfl, N0, J0, E0⟩
        case round =>
          obtain ⟨z, okb, hz, rfl, hA, hJ, hE⟩ := hrel
          clear N0 J0 E0
          obtain ⟨g0, g1, g2, _⟩ := cells_three_z hA.out.gb
          simp only at g0 g1 g2
          have k1 := cell_later hA.out.below y1
          obtain ⟨d0, d1⟩ := hA.out.cell k (by rw [List.length_set]; omega)
          rw [List.getElem_set_self] at d0
          by_cases hzl : z < yr.length
          · have hzi : (z : Int) < (yr.length : Int) := by omega
            have hE2 := hE.out
            rw [allIn_drop p yr z hzl] at hE2
            cases okb
            · have N2 : Hid (Nl.allIn p yr = (false && Nl.allIn p (yr.drop (z + 1)))) := by show _ = _; rw [hE2]; rfl
              have N3 : Hid (ROInv w (wr.setCell ⟨X, k, none⟩ (.bool false)) X g ⟨ta, tc, na, nc, some ⟨rb, ro, none⟩, rac⟩ (mk.set k false)) := by
                have := hA.out.setb k false
                rw [List.set_set] at this; exact this
              have N4 : Hid (Below w1.heap.size w1 (wr.setCell ⟨X, k, none⟩ (.bool false))) := hJ.out.setCell hX _
              clear hE hE2 hA hJ
              go_wp2_with fail
              go_roundw
              case rel => exact ⟨z + 1, false, by omega, by go_num, N3, N4, N2⟩
              case measure => simp [intOf]; omega
            · obtain ⟨zb, zo, hyo, _, _, kz⟩ := HY.out.get z hzl
              subst hyo
              replace kz := cell_later hA.out.below kz
              have hzr := HRF.out _ (List.getElem_mem hzl)
              generalize yr[z] = s at *
              obtain ⟨s, rfl⟩ : ∃ s' : Nat, s = s' := ⟨s.toNat, by omega⟩
              have e0 := HP.out wr hJ.out s (by omega)
              have eS : Nl.isAt p (s : Int) = p[s] := by rw [Nl.isAt_get (by omega) (by simp; omega)]; simp
              rw [eS] at hE2
              have N2 : Hid (Nl.allIn p yr = (p[s] && Nl.allIn p (yr.drop (z + 1)))) := by show _ = _; rw [hE2, Bool.true_and]
              clear hE hE2 eS
              generalize p[s] = ob at *
              have N3 : Hid (ROInv w (wr.setCell ⟨X, k, none⟩ (.bool ob)) X g ⟨ta, tc, na, nc, some ⟨rb, ro, none⟩, rac⟩ (mk.set k ob)) := by
                have := hA.out.setb k ob
                rw [List.set_set] at this; exact this
              have N4 : Hid (Below w1.heap.size w1 (wr.setCell ⟨X, k, none⟩ (.bool ob))) := hJ.out.setCell hX _
              clear hA hJ
              go_wp2_with fail
              go_roundw
              case rel => exact ⟨z + 1, ob, by omega, by go_num, N3, N4, N2⟩
              case measure => simp [intOf]; omega
          · have e : z = yr.length := by omega
            subst e
            have hE2 := hE.out
            rw [List.drop_length, show Nl.allIn p [] = true from rfl, Bool.and_true] at hE2
            rw [hE2] at ST
            rw [ST.out] at hA
            clear hE hE2
            go_wp2_with fail
            go_roundw
            case rel => exact ⟨k + 1, by omega, by go_num, hA, hJ⟩
            case measure => simp [intOf]; omega
      · have e : k = g.rules.length := by omega
        subst e
        rw [Us.marks_full] at hA
        have HS : Hid _ := spread7_any (fun r => Nl.allIn p r.2) g ⟨ta, tc, na, nc, ra, rac⟩ g.terms.length (some ⟨X, 0, none⟩) g.rules.length wr (by omega) HF.out (by omega) (by omega) H8.out (HG.out.next hA.out.below).rules hA.out.bools
        simp only [gmCells] at HS
        obtain ⟨g0, g1, g2, _⟩ := cells_three_z hA.out.gb
        simp only at g0 g1 g2
        clear hA
        go_wp2_with (go_at_call 22; fail)
        refine Calls.mono HS.out ?_
        rintro e w9 ⟨Y, rfl, hY, hy, hb9⟩
        have HJ9 : Hid (Below w1.heap.size w1 w9) := hJ.out.trans (hb9.out.mono hJ.out.size)
        have hYw : w1.heap.size ≤ Y := Nat.le_trans hJ.out.size hY
        generalize hbb : Nl.nulls (Us.reachC (g.rules.filter fun r => Nl.allIn p r.2) (g.terms.length : Int)) (g.terms.length + g.names.length) = bb at *
        have hbl : bb.length = g.terms.length + g.names.length := by rw [← hbb, Nl.nulls_len]
        have hy0 : Hid (w9.heap[Y]? = some (.cells ((Us.mix (Us.use g) bb 0).map Value.bool).toArray 4 (0, 0))) := by rw [Us.mix_zero]; exact hy
        have HUL : Hid _ := hul
        clear g0 g1 g2 HS hb9 hJ hy hbb
        generalize hue : Us.use g = u at *
        go_wp2_with fail
        go_loopw [8] (fun i wc => ∃ k : Nat, k ≤ g.terms.length + g.names.length ∧ i = .int .i64 k ∧ Hid (wc.heap[Y]? = some (.cells ((Us.mix u bb k).map Value.bool).toArray 4 (0, 0))) ∧ Hid (Below w1.heap.size w1 wc)) (fun i _ => g.terms.length + g.names.length - (intOf i).toNat)
        case atStart => exact ⟨0, Nat.zero_le _, rfl, hy0, HJ9⟩
        case round =>
          obtain ⟨k, hk, rfl, hy, hJ⟩ := hrel
          clear hy0 HJ9
          by_cases hkl : k < g.terms.length + g.names.length
          · have hki : (k : Int) < (g.terms.length : Int) + (g.names.length : Int) := by omega
            obtain ⟨g0, g1, g2, _⟩ := cells_three_z ((hJ.out.block _ hzl).trans B1.out)
            obtain ⟨d0, d1⟩ := bools_cell hy.out k (by rw [Us.mix_len (by omega) (by omega)]; omega)
            rw [Us.mix_get (by omega) (by omega)] at d0
            have pk := HP.out wr hJ.out k (by omega)
            have pT := HP.out wr hJ.out g.terms.length (by omega)
            have hu := HU.out k (by omega) (by omega) (by omega) (by omega)
            have N1 : Hid ((wr.setCell ⟨Y, k, none⟩ (.bool (bb[k] && p[k] && p[g.terms.length]))).heap[Y]? = some (.cells ((Us.mix u bb (k + 1)).map Value.bool).toArray 4 (0, 0))) := by
              show _ = _
              rw [← hu, bools_set hy.out, Us.mix_set (by omega) (by omega)]
            have N2 : Hid (Below w1.heap.size w1 (wr.setCell ⟨Y, k, none⟩ (.bool (bb[k] && p[k] && p[g.terms.length])))) := hJ.out.setCell hYw _
            clear hy hJ hu
            generalize bb[k] = x0 at *
            generalize p[k] = x1 at *
            generalize p[g.terms.length] = x2 at *
            cases x0
            · rw [Bool.false_and, Bool.false_and] at N1 N2
              go_wp2_with fail
              go_roundw
              case rel => exact ⟨k + 1, by omega, by go_num, N1, N2⟩
              case measure => simp [intOf]; omega
            · cases x1
              · rw [Bool.true_and, Bool.false_and] at N1 N2
                go_wp2_with fail
                go_roundw
                case rel => exact ⟨k + 1, by omega, by go_num, N1, N2⟩
                case measure => simp [intOf]; omega
              · rw [Bool.true_and, Bool.true_and] at N1 N2
                go_wp2_with fail
                go_roundw
                case rel => exact ⟨k + 1, by omega, by go_num, N1, N2⟩
                case measure => simp [intOf]; omega
          · have hmx : Us.mix u bb k = u := Us.mix_full (by omega) (by omega)
            rw [hmx] at hy
            have hbs : Hid (BoolsAt wr.heap.size wr (some ⟨Y, 0, none⟩) u) := bools_block hy.out
            have HBF : Hid (Below w.heap.size w wr) := HB1.out.trans (hJ.out.mono HB1.out.size)
            clear hy hmx hJ
            go_wp2_with fail
            go_ret
            refine ⟨some ⟨Y, 0, none⟩, g.terms.length + g.names.length, ?_, ?_, HBF⟩
            · rw [hue, HUL.out]; rfl
            · rw [hue]; exact hbs
end Go.Proofs.Ytkcohemphaafkaa
