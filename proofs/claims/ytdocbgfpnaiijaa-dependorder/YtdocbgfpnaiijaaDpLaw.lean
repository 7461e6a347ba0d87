/-
  Layer 10 (depend): the laws' own example, reckoned.
  Layer 10 (depend): whether occurrences are alike; whether one is among them (the document's).
  Layer 10 (depend): rows of occurrences as arguments: what their reading as data says of memory.
  The laws of layer 10: wakes: when a law of layer 10 looks at nothing but its own example.
-/
import Derived.Test.YtdocbgfpnaiijaaDpInner
import Derived.Test.YtdocbgfpnaiijaaGrTop
import Derived.Test.YtdocbgfpnaiijaaDpLib
import Derived.Test.YtdocbgfpnaiijaaGrKeeps
import Derived.Test.YtdocbgfpnaiijaaGrOpen
import Derived.Test.YtdocbgfpnaiijaaSchLib
import Derived.OpenShut
namespace Go.Proofs.Ytdocbgfpnaiijaa
open Go.RowKit Go.Conc

def dpgm : Gr.Gm := ⟨[⟨#[97]⟩, ⟨#[98]⟩], [⟨#[83]⟩, ⟨#[65]⟩, ⟨#[66]⟩], [(2, [2, 0]), (2, [3]), (3, [4]), (4, [3, 1]), (4, [])]⟩
theorem dpw1 : Hid (ofS (⟨#[83, 32, 61, 32, 83, 32, 39, 97, 39, 32, 124, 32, 65, 32, 59, 32, 65, 32, 61, 32, 66, 32, 59, 32, 66, 32, 61, 32, 65, 32, 39, 98, 39, 32, 124, 32, 59]⟩ : ByteArray).data.toList = (0, 0, dpgm)) := by show _ = _; kernel_rfl
theorem dpgood : Gr.good dpgm = true := by kernel_rfl
theorem dpw2 : (Dp.but 2 dpgm.rules []).map (Dp.link 2 dpgm.rules) = [(0, 0), (0, 1), (1, 2), (2, 1)] := by decide
theorem dpw3 : (Dp.but 2 dpgm.rules [(2, 0)]).map (Dp.link 2 dpgm.rules) = [(0, 0), (0, 1), (2, 1)] := by decide
theorem dplink {wo : List (Int × Int)} {l : List (Int × Int)} (h : (Dp.but 2 dpgm.rules wo).map (Dp.link 2 dpgm.rules) = l) (a b : Int) : Dp.Link 2 dpgm.rules wo a b ↔ (a, b) ∈ l := by
  rw [← h]; exact Dp.mem_links.symm
theorem dpon_reckon {wo : List (Int × Int)} {l : List (Int × Int)} {ss : List (List Bool)} (h : (Dp.but 2 dpgm.rules wo).map (Dp.link 2 dpgm.rules) = l) (hsh : Fi.Shape 3 3 ss)
    (h1 : ∀ p ∈ l, Fi.has ss p.1 p.2 = true) (h2 : ∀ p ∈ l, ∀ v ∈ [(0 : Int), 1, 2], Fi.has ss p.2 v = true → Fi.has ss p.1 v = true)
    (h3 : ∀ s ∈ [(0 : Int), 1, 2], ∀ v ∈ [(0 : Int), 1, 2], Fi.has ss s v = true → (s, v) ∈ l ∨ ∃ m ∈ [(0 : Int), 1, 2], (s, m) ∈ l ∧ (m, v) ∈ l) : Dp.onG dpgm wo = ss := by
  unfold Dp.onG
  rw [if_pos dpgood]
  refine (Fo.tab_is hsh fun s t => ⟨fun q => ?_, fun q => ?_⟩).symm
  · have hl := hsh.lt q
    have hs : s ∈ [(0 : Int), 1, 2] := by have := hl.1; simp only [List.mem_cons, List.not_mem_nil, or_false]; omega
    have ht : t ∈ [(0 : Int), 1, 2] := by have := hl.2; simp only [List.mem_cons, List.not_mem_nil, or_false]; omega
    rcases h3 s hs t ht q with p | ⟨m, _, p1, p2⟩
    · exact .base s t ((dplink h s t).2 p)
    · exact .step m s t ((dplink h s m).2 p1) (.base m t ((dplink h m t).2 p2))
  · refine Fo.Reach.all (P := fun a b => Fi.has ss a b = true) (fun a b p => h1 _ ((dplink h a b).1 p)) (fun a b v p r => ?_) q
    have hl := hsh.lt r
    exact h2 _ ((dplink h b a).1 p) v (by have := hl.2; simp only [List.mem_cons, List.not_mem_nil, or_false]; omega) r
theorem dpw4 : Dp.onG dpgm [] = [[true, true, true], [false, true, true], [false, true, true]] :=
  dpon_reckon dpw2 ⟨rfl, by decide⟩ (by decide) (by decide) (by decide)
theorem dpw5 : Dp.onG dpgm [(2, 0)] = [[true, true, false], [false, false, false], [false, true, false]] :=
  dpon_reckon dpw3 ⟨rfl, by decide⟩ (by decide) (by decide) (by decide)
theorem dpw6 : Dp.compG dpgm [] = [0, 1, 1] := by unfold Dp.compG; rw [dpw4]; decide
theorem dpw7 : Dp.compG dpgm [(2, 0)] = [0, 1, 2] := by unfold Dp.compG; rw [dpw5]; decide
theorem dpw8 : Dp.spotsG dpgm [] = [(0, 0), (1, 0), (2, 0), (3, 0)] := by unfold Dp.spotsG; rw [if_pos dpgood]; decide
theorem dpw9 : Dp.spotsG dpgm [(2, 0)] = [(0, 0), (1, 0), (3, 0)] := by unfold Dp.spotsG; rw [if_pos dpgood]; decide
theorem dpw10 : Dp.innerG dpgm [] = [(0, 0), (2, 0), (3, 0)] := by
  unfold Dp.innerG
  rw [dpw8, show Dp.isIn dpgm [] = fun s => ([0, 1, 1] : List Int).getD (Dp.link dpgm.terms.length dpgm.rules s).1.toNat 0 == ([0, 1, 1] : List Int).getD (Dp.link dpgm.terms.length dpgm.rules s).2.toNat 0 from by funext s; unfold Dp.isIn; rw [dpw6]]
  decide
theorem dpw11 : Dp.innerG dpgm [(2, 0)] = [(0, 0)] := by
  unfold Dp.innerG
  rw [dpw9, show Dp.isIn dpgm [(2, 0)] = fun s => ([0, 1, 2] : List Int).getD (Dp.link dpgm.terms.length dpgm.rules s).1.toNat 0 == ([0, 1, 2] : List Int).getD (Dp.link dpgm.terms.length dpgm.rules s).2.toNat 0 from by funext s; unfold Dp.isIn; rw [dpw7]]
  decide
end Go.Proofs.Ytdocbgfpnaiijaa

namespace Go.Proofs.Ytdocbgfpnaiijaa
open Go.RowKit Go.Conc

set_option maxHeartbeats 800000 in
theorem keepSpots_same (l : List (Int × Int)) (hl : l.length ≤ 4000) (ao ao' : Option Addr) (c c' : Nat) (w : World) (h1 : SpotsAt w.heap.size w ao l) (h2 : SpotsAt w.heap.size w ao' l) :
    Calls Try.prog 19 #[.slice ao l.length c, .slice ao' l.length c'] w fun e w' => e = .returned (.bool true) ∧ ∃ n, w' = w.drewN n := by
  have RA : Hid _ := h1
  have RB : Hid _ := h2
  clear h1 h2
  have hne : ((l.length : Int) != (l.length : Int)) = false := by simp
  go_enter Try.func19, Try.ntmps19
  go_wp2_with fail
  go_loopw [5] (fun i wr => ∃ k : Nat, k ≤ l.length ∧ i = .int .i64 k ∧ ∃ n, wr = w.drewN n) (fun i _ => l.length - (intOf i).toNat)
  case atStart => exact ⟨0, Nat.zero_le _, rfl, 0, rfl⟩
  case round =>
    obtain ⟨k, hk, rfl, n, rfl⟩ := hrel
    by_cases hlt : k < l.length
    · obtain ⟨g, o, rfl, _, _, a0, a1⟩ := RA.out k hlt
      obtain ⟨g', o', rfl, _, _, b0, b1⟩ := RB.out k hlt
      generalize l[k] = x at *
      obtain ⟨x0, x1⟩ := x
      simp only at a0 a1 b0 b1
      go_wp2_with fail
      go_quiet (fail)
      go_wp2_with fail
      go_roundw
      case rel => exact ⟨k + 1, by omega, by go_num, _, rfl⟩
      case measure => simp [intOf]; omega
    · go_wp2_with fail
      go_ret
      exact ⟨rfl, n, rfl⟩

theorem Dp.mem_drop_step (p : Int × Int) (l : List (Int × Int)) (k : Nat) (h : k < l.length) : decide (p ∈ l.drop k) = (decide (l[k] = p) || decide (p ∈ l.drop (k + 1))) := by
  rw [List.drop_eq_getElem_cons h]
  generalize l.drop (k + 1) = m
  generalize l[k] = y
  by_cases e : y = p
  · simp [e]
  · have e' : ¬ p = y := fun h => e h.symm
    simp [e, e']

set_option maxHeartbeats 1600000 in
theorem refHas10_is (r : Bool) (l : List (Int × Int)) (hl : l.length ≤ 4000) (ao : Option Addr) (c : Nat) (p0 p1 : Int) (w : World) (h : SpotsAt w.heap.size w ao l) (hr : decide ((p0, p1) ∈ l) = r) :
    Calls Try.prog 29 #[.slice ao l.length c, .agg #[.int .i64 p0, .int .i64 p1]] w fun e w' => e = .returned (.bool r) ∧ Below w.heap.size w w' := by
  have HR : Hid (SpotsAt w.heap.size w ao l) := h
  have R0 : Hid (decide ((p0, p1) ∈ l) = r) := hr
  have hbW : Hid (Below w.heap.size w (w.alloc (Obj.cells #[.int .i64 p0, .int .i64 p1] 48))) := (Below.refl _ w).alloc (Nat.le_refl _) _
  have b0 : Hid ((w.alloc (Obj.cells #[.int .i64 p0, .int .i64 p1] 48)).heap[w.heap.size]? = some (.cells #[.int .i64 p0, .int .i64 p1] 48 (0, 0))) := heap_alloc_new w _
  clear h hr
  go_enter Try.func29, Try.ntmps29
  go_wp2_with fail
  generalize (w.alloc (Obj.cells #[.int .i64 p0, .int .i64 p1] 48)) = W at *
  obtain ⟨q0, q1, _, _⟩ := cells_two_z b0.out
  go_loopw [5] (fun i wr => ∃ (q n : Nat), q ≤ l.length ∧ i = .int .i64 q ∧ wr = W.drewN n ∧ Hid (decide ((p0, p1) ∈ l.drop q) = r)) (fun i _ => l.length - (intOf i).toNat)
  case atStart => exact ⟨0, 0, Nat.zero_le _, rfl, rfl, by show _ = _; rw [List.drop_zero]; exact R0.out⟩
  case round =>
    obtain ⟨q, n, hq, rfl, rfl, hE⟩ := hrel
    clear R0
    by_cases hlt : q < l.length
    · have hqi : (q : Int) < (l.length : Int) := by omega
      obtain ⟨b, o, rfl, hbb, _, y0, y1⟩ := HR.out q hlt
      rw [Dp.mem_drop_step _ _ _ hlt] at hE
      generalize l[q] = y at *
      obtain ⟨a0, a1⟩ := y
      simp only at y0 y1
      replace y0 := cell_later hbW.out y0
      replace y1 := cell_later hbW.out y1
      by_cases e : ((a0, a1) : Int × Int) = (p0, p1)
      · simp only [Prod.mk.injEq] at e
        obtain ⟨rfl, rfl⟩ := e
        have hR : Hid (r = true) := by show _ = _; rw [← hE]; simp
        clear hE
        go_wp2_with fail
        go_quiet (fail)
        go_wp2_with fail
        go_ret
        exact ⟨by have e1 := hR.out; subst e1; rfl, below_drewN (below_drewN hbW.out _) _⟩
      · have hE' : Hid (decide ((p0, p1) ∈ l.drop (q + 1)) = r) := by show _ = _; have := hE; simp only [e, decide_false, Bool.false_or] at this; exact this
        clear hE
        by_cases e0 : a0 = p0
        · subst e0
          have e1 : ¬ a1 = p1 := fun h => e (by rw [h])
          clear e
          go_wp2_with fail
          go_quiet (fail)
          go_wp2_with fail
          go_roundw
          case rel => exact ⟨q + 1, _, by omega, by go_num, rfl, hE'⟩
          case measure => simp [intOf]; omega
        · clear e
          go_wp2_with fail
          go_quiet (fail)
          go_wp2_with fail
          go_roundw
          case rel => exact ⟨q + 1, _, by omega, by go_num, rfl, hE'⟩
          case measure => simp [intOf]; omega
    · have hq2 : q = l.length := by omega
      subst hq2
      have hR : Hid (r = false) := by show _ = _; rw [← hE]; simp
      clear hE
      go_wp2_with fail
      go_ret
      exact ⟨by have e1 := hR.out; subst e1; rfl, below_drewN hbW.out _⟩
end Go.Proofs.Ytdocbgfpnaiijaa

namespace Go.Proofs.Ytdocbgfpnaiijaa
open Go.ChangeShapes Go.WideShapes Go.ChangeAt Go.RowKit Go.Deep

section
variable {H : Type} {enc : TypeId × Value → H} {w : World} {base : Nat} {spare : Nat → Bool} {held : Bool}

theorem cellsSpot : Try.prog.cellsOf 48 = 2 := by kernel_rfl

/-- an occurrence's cells -/
theorem open_spot {fuel : Nat} {cs : List Value} {x : DataW H × List MemPlace} (h : DataW.trod enc Try.prog w base spare held fuel 48 cs = some x) :
    ∃ s : Int × Int, cs = [.int .i64 s.1, .int .i64 s.2] := by
  obtain ⟨y0, y1, n, _, hl, h0, h1⟩ := trod_struct2 Try.underlying48 h
  rw [cellsSpot] at hl
  simp only [cellsInt] at h0 h1
  match cs, hl with
  | [a, b], _ =>
    simp only [List.drop_zero, List.take_succ_cons, List.take_zero, List.drop_succ_cons] at h0 h1
    obtain ⟨k, e0, _, _⟩ := DataW.trod_int Try.underlying3 h0
    obtain ⟨p, e1, _, _⟩ := DataW.trod_int Try.underlying3 h1
    cases e0; cases e1
    exact ⟨(k, p), rfl⟩

/-- a row of occurrences -/
theorem open_sps {fuel : Nat} {cs : List Value} {x : DataW H × List MemPlace} (h : DataW.trod enc Try.prog w base spare held fuel 35 cs = some x) :
    ∃ (ao : Option Addr) (c : Nat) (ts : List (Int × Int)), cs = [.slice ao ts.length c] ∧ SpotsAt w.heap.size w ao ts ∧ (ts.length ≤ c ∧ c ≤ maxLen) := by
  rcases open_slice Try.underlying35 h with ⟨rfl, _⟩ | ⟨a, len, cap, m, n, D, Pl, rfl, hb, hl, hm, hmm, _, hx⟩
  · exact ⟨none, 0, [], rfl, SpotsAt.nil, ⟨Nat.le_refl _, Nat.zero_le _⟩⟩
  · have hlm : len ≤ m := by rw [hmm]; split <;> omega
    have each : ∀ i, i < len → ∃ s : Int × Int, True ∧ ∀ j, j < 2 → w.cell? (a.add (i * 2 + j)) = ([.int .i64 s.1, .int .i64 s.2] : List Value)[j]? := by
      intro i hi
      obtain ⟨cs', h1, h2⟩ := hx i (by omega)
      rw [cellsSpot] at h1
      obtain ⟨s, rfl⟩ := open_spot h2
      obtain ⟨_, _, hcell⟩ := World.cells?_some h1
      exact ⟨s, trivial, fun j hj => by rw [← add_add]; exact hcell j hj⟩
    obtain ⟨f, hf⟩ := choose_lt each
    refine ⟨some a, cap, (List.range len).map f, by simp, ?_, ⟨by simpa using hl, hm⟩⟩
    intro i hi
    have hi' : i < len := by simpa using hi
    have z : w.cell? (a.add (0 * 2 + 0)) = some (.int .i64 (f 0).1) := (hf 0 (by omega)).2 0 (by omega)
    obtain ⟨b, o, sp⟩ := a
    have hsp : sp = none := by
      have := (spot_none z).1
      simpa [Addr.add] using this
    subst hsp
    have e : ((List.range len).map f)[i] = f i := by simp
    have c0 := (hf i hi').2 0 (by omega)
    have c1 := (hf i hi').2 1 (by omega)
    rw [addr_off_add] at c0 c1
    rw [e]
    have hlt := World.block_lt_of_cell? _ _ (show w.cell? _ = some _ from c0)
    exact ⟨b, o, rfl, hlt, hlt, c0, by rw [Nat.add_assoc]; exact c1⟩
end
end Go.Proofs.Ytdocbgfpnaiijaa

namespace Go.Proofs.Ytdocbgfpnaiijaa
open Go.RowKit Go.Conc

theorem spots_block {V : World} {b t : Nat} {l : List (Int × Int)} (h : V.heap[b]? = some (Obj.cells (spCells l).toArray t (0, 0))) : SpotsAt V.heap.size V (some ⟨b, 0, none⟩) l := by
  have hlt := (Array.getElem?_eq_some_iff.1 h).1
  intro i hi
  obtain ⟨k0, k1⟩ := spCells_get l i hi
  refine ⟨b, 0, rfl, hlt, hlt, ?_, ?_⟩
  · simp [World.cell?, h, k0]
  · simp [World.cell?, h, k1]
theorem spots_new (w : World) (l : List (Int × Int)) (t : Nat) : SpotsAt (w.alloc (Obj.cells (spCells l).toArray t)).heap.size (w.alloc (Obj.cells (spCells l).toArray t)) (some ⟨w.heap.size, 0, none⟩) l := spots_block (heap_alloc_new w _)

set_option maxRecDepth 100000 in
set_option maxHeartbeats 6400000 in
theorem dwakes_any (w : World) : Calls Try.prog 15 #[] w fun e w' => e = .returned (.bool true) ∧ Below w.heap.size w w' := by
  have hml : ∀ x ∈ dpgm.rules, x.2.length ≤ maxLen := by intro x hx; simp [dpgm] at hx; rcases hx with rfl | rfl | rfl | rfl | rfl <;> simp [maxLen]
  have HML : Hid _ := hml
  clear hml
  go_enter Try.func15, Try.ntmps15
  go_wp2_with (go_at_call 34; fail)
  refine (of_is _ _ _ _ _ (by decide) dpw1).mono ?_
  rintro e w1 ⟨⟨ta, tc, na, nc, ra, rc⟩, rfl, hb1, ho1⟩
  simp only [gmCells]
  have hbA : Hid (Below w1.heap.size w1 ((w1.alloc (Obj.cells #[.slice ta dpgm.terms.length tc, .slice na dpgm.names.length nc, .slice ra dpgm.rules.length rc] 25)).alloc (Obj.cells #[.int .i64 0, .int .i64 0] 56))) := ((Below.refl _ w1).alloc (Nat.le_refl _) _).alloc (by simp) _
  have kG : Hid (((w1.alloc (Obj.cells #[.slice ta dpgm.terms.length tc, .slice na dpgm.names.length nc, .slice ra dpgm.rules.length rc] 25)).alloc (Obj.cells #[.int .i64 0, .int .i64 0] 56)).heap[w1.heap.size]? = some (.cells #[.slice ta dpgm.terms.length tc, .slice na dpgm.names.length nc, .slice ra dpgm.rules.length rc] 25 (0, 0))) := by
    show _ = _; rw [Below.heap_alloc _ _ _ (by simp)]; exact heap_alloc_new w1 _
  have kF : Hid (((w1.alloc (Obj.cells #[.slice ta dpgm.terms.length tc, .slice na dpgm.names.length nc, .slice ra dpgm.rules.length rc] 25)).alloc (Obj.cells #[.int .i64 0, .int .i64 0] 56)).heap[w1.heap.size + 1]? = some (.cells #[.int .i64 0, .int .i64 0] 56 (0, 0))) := by
    show _ = _
    have := heap_alloc_new (w1.alloc (Obj.cells #[.slice ta dpgm.terms.length tc, .slice na dpgm.names.length nc, .slice ra dpgm.rules.length rc] 25)) (Obj.cells #[.int .i64 0, .int .i64 0] 56)
    simpa using this
  have gA : Hid _ := ho1.out.below hbA.out
  have hB : Hid _ := hb1.out.trans (hbA.out.mono hb1.out.size)
  clear ho1 hb1 hbA
  go_wp2_with (go_at_call 23; fail)
  generalize ((w1.alloc (Obj.cells #[.slice ta dpgm.terms.length tc, .slice na dpgm.names.length nc, .slice ra dpgm.rules.length rc] 25)).alloc (Obj.cells #[.int .i64 0, .int .i64 0] 56)) = W at *
  have HGM : Hid (∀ V : World, Below W.heap.size W V → GmAt V.heap.size V dpgm ⟨ta, tc, na, nc, ra, rc⟩) := fun V hV => gA.out.at.next hV
  have HW : Hid (∀ V : World, Below W.heap.size W V → V.heap[w1.heap.size]? = some (.cells #[.slice ta dpgm.terms.length tc, .slice na dpgm.names.length nc, .slice ra dpgm.rules.length rc] 25 (0, 0)) ∧ V.heap[w1.heap.size + 1]? = some (.cells #[.int .i64 0, .int .i64 0] 56 (0, 0)) ∧ Below w.heap.size w V) := fun V hV =>
    ⟨(hV.block _ (Array.getElem?_eq_some_iff.1 kG.out).1).trans kG.out, (hV.block _ (Array.getElem?_eq_some_iff.1 kF.out).1).trans kF.out, hB.out.trans (hV.mono hB.out.size)⟩
  clear gA kG kF hB
  refine Calls.mono (dpcomps_own dpgm ⟨ta, tc, na, nc, ra, rc⟩ [] none 0 W HML.out (HGM.out W (Below.refl _ _)) SpotsAt.nil (by simp)) ?_
  rintro e w2 ⟨v2, rfl, hC2, hb2⟩
  rw [dpw6] at hC2
  obtain ⟨co, cc, rfl, hCI, _⟩ := OwnInts.read hC2.out
  have CI2 : Hid (IntsAt w2.heap.size w2 co [0, 1, 1]) := hCI
  clear hC2 hCI
  simp only [List.length_cons, List.length_nil, Nat.zero_add, Nat.reduceAdd]
  obtain ⟨k2, _, _⟩ := HW.out w2 hb2.out
  obtain ⟨g0, g1, g2, _⟩ := cells_three_z k2
  have hgz := (Array.getElem?_eq_some_iff.1 k2).1
  clear k2
  go_wp2_with (go_at_call 25; fail)
  refine Calls.mono (dpinner_own dpgm ⟨ta, tc, na, nc, ra, rc⟩ [] none 0 w2 HML.out (HGM.out w2 hb2.out) SpotsAt.nil (by simp)) ?_
  rintro e w3 ⟨v3, rfl, hS3, hb3⟩
  rw [dpw10] at hS3
  obtain ⟨io, ic, rfl, hSI⟩ := OwnSpots.read hS3.out
  have SI3 : Hid (SpotsAt w3.heap.size w3 io [(0, 0), (2, 0), (3, 0)]) := hSI
  have CI3 : Hid (IntsAt w3.heap.size w3 co [0, 1, 1]) := IntsAt.size (CI2.out.later hb3.out)
  have hB3 : Hid (Below W.heap.size W w3) := hb2.out.trans (hb3.out.mono hb2.out.size)
  clear hS3 hSI CI2 hb2 hb3 g0 g1 g2 hgz
  simp only [List.length_cons, List.length_nil, Nat.zero_add, Nat.reduceAdd]
  obtain ⟨k3, _, _⟩ := HW.out w3 hB3.out
  obtain ⟨g0, g1, g2, _⟩ := cells_three_z k3
  have hgz := (Array.getElem?_eq_some_iff.1 k3).1
  clear k3
  have hbn : Hid (Below w3.heap.size w3 (w3.alloc (Obj.cells #[.int .i64 2, .int .i64 0] 48))) := (Below.refl _ w3).alloc (Nat.le_refl _) _
  have WO4 : Hid (SpotsAt (w3.alloc (Obj.cells #[.int .i64 2, .int .i64 0] 48)).heap.size (w3.alloc (Obj.cells #[.int .i64 2, .int .i64 0] 48)) (some ⟨w3.heap.size, 0, none⟩) [(2, 0)]) := spots_new w3 [(2, 0)] 48
  have SI4 : Hid (SpotsAt _ _ io _) := SpotsAt.size (SI3.out.later hbn.out)
  have CI4 : Hid (IntsAt _ _ co _) := IntsAt.size (CI3.out.later hbn.out)
  have hB4 : Hid (Below W.heap.size W _) := hB3.out.trans (hbn.out.mono hB3.out.size)
  clear SI3 CI3 hB3 hbn
  go_wp2_with (go_at_call 25; fail)
  generalize (w3.alloc (Obj.cells #[.int .i64 2, .int .i64 0] 48)) = w4 at *
  refine Calls.mono (dpinner_own dpgm ⟨ta, tc, na, nc, ra, rc⟩ [(2, 0)] (some ⟨w3.heap.size, 0, none⟩) 1 w4 HML.out (HGM.out w4 hB4.out) WO4.out (by simp)) ?_
  rintro e w5 ⟨v5, rfl, hS5, hb5⟩
  rw [dpw11] at hS5
  obtain ⟨jo, jc, rfl, hSJ⟩ := OwnSpots.read hS5.out
  have SJ5 : Hid (SpotsAt w5.heap.size w5 jo [(0, 0)]) := hSJ
  have SI5 : Hid (SpotsAt w5.heap.size w5 io _) := SpotsAt.size (SI4.out.later hb5.out)
  have CI5 : Hid (IntsAt w5.heap.size w5 co _) := IntsAt.size (CI4.out.later hb5.out)
  have hB5 : Hid (Below W.heap.size W w5) := hB4.out.trans (hb5.out.mono hB4.out.size)
  clear hS5 hSJ SI4 CI4 hB4 hb5 WO4 g0 g1 g2 hgz
  simp only [List.length_cons, List.length_nil, Nat.zero_add]
  obtain ⟨k5, _, _⟩ := HW.out w5 hB5.out
  obtain ⟨g0, g1, g2, _⟩ := cells_three_z k5
  have hgz := (Array.getElem?_eq_some_iff.1 k5).1
  clear k5
  go_wp2_with (go_at_call 17; fail)
  refine Calls.mono (dpon_is dpgm ⟨ta, tc, na, nc, ra, rc⟩ [] none 0 w5 HML.out (HGM.out w5 hB5.out) SpotsAt.nil (by simp)) ?_
  rintro e w6 ⟨xo, xc, rfl, hO, hb6⟩
  rw [dpw4] at hO ⊢
  have SJ6 : Hid (SpotsAt w6.heap.size w6 jo _) := SpotsAt.size (SJ5.out.later hb6.out)
  have SI6 : Hid (SpotsAt w6.heap.size w6 io _) := SpotsAt.size (SI5.out.later hb6.out)
  have CI6 : Hid (IntsAt w6.heap.size w6 co _) := IntsAt.size (CI5.out.later hb6.out)
  have hB6 : Hid (Below W.heap.size W w6) := hB5.out.trans (hb6.out.mono hB5.out.size)
  clear SJ5 SI5 CI5 hB5 hb6 g0 g1 g2 hgz
  simp only [List.length_cons, List.length_nil, Nat.zero_add, Nat.reduceAdd]
  obtain ⟨b, o, ro, rc0, rfl, hbl, c0, R0⟩ := hO.out 0 (by simp)
  obtain ⟨b2, o2, ro2, rc2, e, _, c1, R1⟩ := hO.out 1 (by simp)
  simp only [Option.some.injEq, Addr.mk.injEq] at e
  obtain ⟨rfl, rfl, _⟩ := e
  obtain ⟨d0, p0, rfl, _, hd0, y0⟩ := BoolsAt.get R0 2 (by simp)
  obtain ⟨d1, p1, rfl, _, hd1, y1⟩ := BoolsAt.get R1 0 (by simp)
  obtain ⟨d2, p2, e, _, _, y2⟩ := BoolsAt.get R1 1 (by simp)
  simp only [Option.some.injEq, Addr.mk.injEq] at e
  obtain ⟨rfl, rfl, _⟩ := e
  have e0 : w6.cell? ⟨b, o, none⟩ = some (.slice (some ⟨d0, p0, none⟩) 3 rc0) := c0
  have e1 : w6.cell? ⟨b, o + 1, none⟩ = some (.slice (some ⟨d1, p1, none⟩) 3 rc2) := c1
  have z0 : w6.cell? ⟨d0, p0 + 2, none⟩ = some (.bool true) := y0
  have z1 : w6.cell? ⟨d1, p1, none⟩ = some (.bool false) := y1
  have z2 : w6.cell? ⟨d1, p1 + 1, none⟩ = some (.bool true) := y2
  have HL : Hid (∀ V : World, Below w6.heap.size w6 V → (b < V.heap.size ∧ d0 < V.heap.size ∧ d1 < V.heap.size) ∧ V.cell? ⟨b, o, none⟩ = some (.slice (some ⟨d0, p0, none⟩) 3 rc0) ∧ V.cell? ⟨b, o + 1, none⟩ = some (.slice (some ⟨d1, p1, none⟩) 3 rc2) ∧ V.cell? ⟨d0, p0 + 2, none⟩ = some (.bool true) ∧ V.cell? ⟨d1, p1, none⟩ = some (.bool false) ∧ V.cell? ⟨d1, p1 + 1, none⟩ = some (.bool true)) := fun V hV =>
    ⟨⟨Nat.lt_of_lt_of_le hbl hV.size, Nat.lt_of_lt_of_le hd0 hV.size, Nat.lt_of_lt_of_le hd1 hV.size⟩, cell_later hV e0, cell_later hV e1, cell_later hV z0, cell_later hV z1, cell_later hV z2⟩
  obtain ⟨_, k6, _⟩ := HW.out w6 hB6.out
  obtain ⟨f0, f1, _⟩ := cells_two_z k6
  have hfz := (Array.getElem?_eq_some_iff.1 k6).1
  clear c0 c1 y0 y1 y2 R0 R1 hO k6 z0 z1 z2
  go_upto_region 8 with fail
  clear f0 f1 hfz e0 e1 hbl hd0 hd1
  have hbn : Hid (Below w6.heap.size w6 (w6.alloc (Obj.cells #[.int .i64 0, .int .i64 1, .int .i64 1] 3))) := (Below.refl _ w6).alloc (Nat.le_refl _) _
  have CN7 : Hid (IntsAt (w6.alloc (Obj.cells #[.int .i64 0, .int .i64 1, .int .i64 1] 3)).heap.size (w6.alloc (Obj.cells #[.int .i64 0, .int .i64 1, .int .i64 1] 3)) (some ⟨w6.heap.size, 0, none⟩) [0, 1, 1]) := ints_new w6 [0, 1, 1] 3
  have CI7 : Hid (IntsAt _ _ co _) := IntsAt.size (CI6.out.later hbn.out)
  go_wp2_with (go_at_call 22; fail)
  generalize (w6.alloc (Obj.cells #[.int .i64 0, .int .i64 1, .int .i64 1] 3)) = v7 at *
  refine Calls.mono (keepInts_same [0, 1, 1] (by decide) co (some ⟨w6.heap.size, 0, none⟩) cc 3 _ CI7.out CN7.out) ?_
  rintro e w7 ⟨rfl, nd, rfl⟩
  have hb7 : Hid (Below w6.heap.size w6 (v7.drewN nd)) := below_drewN hbn.out nd
  clear CI7 CN7 CI6 hbn
  generalize v7.drewN nd = w7 at *
  have SJ7 : Hid (SpotsAt w7.heap.size w7 jo _) := SpotsAt.size (SJ6.out.later hb7.out)
  have SI7 : Hid (SpotsAt w7.heap.size w7 io _) := SpotsAt.size (SI6.out.later hb7.out)
  clear SJ6 SI6
  have hbn : Hid (Below w7.heap.size w7 (w7.alloc (Obj.cells #[.int .i64 0, .int .i64 0, .int .i64 2, .int .i64 0, .int .i64 3, .int .i64 0] 48))) := (Below.refl _ w7).alloc (Nat.le_refl _) _
  have SN : Hid (SpotsAt (w7.alloc (Obj.cells #[.int .i64 0, .int .i64 0, .int .i64 2, .int .i64 0, .int .i64 3, .int .i64 0] 48)).heap.size (w7.alloc (Obj.cells #[.int .i64 0, .int .i64 0, .int .i64 2, .int .i64 0, .int .i64 3, .int .i64 0] 48)) (some ⟨w7.heap.size, 0, none⟩) [(0, 0), (2, 0), (3, 0)]) := spots_new w7 [(0, 0), (2, 0), (3, 0)] 48
  have SO : Hid (SpotsAt _ _ io _) := SpotsAt.size (SI7.out.later hbn.out)
  have SJ8 : Hid (SpotsAt _ _ jo _) := SpotsAt.size (SJ7.out.later hbn.out)
  go_wp2_with (go_at_call 19; fail)
  generalize (w7.alloc (Obj.cells #[.int .i64 0, .int .i64 0, .int .i64 2, .int .i64 0, .int .i64 3, .int .i64 0] 48)) = v8 at *
  refine Calls.mono (keepSpots_same [(0, 0), (2, 0), (3, 0)] (by decide) io (some ⟨w7.heap.size, 0, none⟩) ic 3 _ SO.out SN.out) ?_
  rintro e w8 ⟨rfl, nd8, rfl⟩
  have hb8 : Hid (Below w6.heap.size w6 (v8.drewN nd8)) := hb7.out.trans ((below_drewN hbn.out nd8).mono hb7.out.size)
  have SJ9 : Hid (SpotsAt (v8.drewN nd8).heap.size (v8.drewN nd8) jo _) := SpotsAt.size (SJ8.out.later (below_drewN (Below.refl _ v8) nd8))
  clear SN SO SI7 SJ7 SJ8 hbn hb7
  generalize v8.drewN nd8 = w8 at *
  have hbn : Hid (Below w8.heap.size w8 (w8.alloc (Obj.cells #[.int .i64 0, .int .i64 0] 48))) := (Below.refl _ w8).alloc (Nat.le_refl _) _
  have SN : Hid (SpotsAt (w8.alloc (Obj.cells #[.int .i64 0, .int .i64 0] 48)).heap.size (w8.alloc (Obj.cells #[.int .i64 0, .int .i64 0] 48)) (some ⟨w8.heap.size, 0, none⟩) [(0, 0)]) := spots_new w8 [(0, 0)] 48
  have SO : Hid (SpotsAt _ _ jo _) := SpotsAt.size (SJ9.out.later hbn.out)
  go_wp2_with (go_at_call 19; fail)
  generalize (w8.alloc (Obj.cells #[.int .i64 0, .int .i64 0] 48)) = v9 at *
  refine Calls.mono (keepSpots_same [(0, 0)] (by decide) jo (some ⟨w8.heap.size, 0, none⟩) jc 1 _ SO.out SN.out) ?_
  rintro e w9 ⟨rfl, nd9, rfl⟩
  have hb9 : Hid (Below w6.heap.size w6 (v9.drewN nd9)) := hb8.out.trans ((below_drewN hbn.out nd9).mono hb8.out.size)
  clear SN SO SJ9 hbn hb8
  generalize v9.drewN nd9 = w9 at *
  have hB9 : Hid (Below W.heap.size W w9) := hB6.out.trans (hb9.out.mono hB6.out.size)
  obtain ⟨k9, _, hz9⟩ := HW.out w9 hB9.out
  obtain ⟨g0, g1, g2, _⟩ := cells_three_z k9
  have hgz := (Array.getElem?_eq_some_iff.1 k9).1
  clear k9
  go_wp2_with (go_at_call 20; fail)
  refine Calls.mono (dpspots_own dpgm ⟨ta, tc, na, nc, ra, rc⟩ w9 HML.out (HGM.out w9 hB9.out)) ?_
  rintro e w10 ⟨v10, rfl, hS10, hb10⟩
  rw [dpw8] at hS10
  obtain ⟨zo, zc, rfl, _⟩ := OwnSpots.read hS10.out
  simp only [List.length_cons, List.length_nil, Nat.zero_add, Nat.reduceAdd]
  obtain ⟨⟨l0, l1, l2⟩, e0, e1, z0, z1, z2⟩ := HL.out w10 (hb9.out.trans (hb10.out.mono hb9.out.size))
  have hBf : Hid (Below w.heap.size w w10) := hz9.trans (hb10.out.mono hz9.size)
  clear g0 g1 g2 hgz hS10 hb10 hb9 hB9 HL HW HGM hz9 hB6
  go_wp2_with fail
  go_ret
  exact ⟨rfl, hBf.out⟩
end Go.Proofs.Ytdocbgfpnaiijaa
