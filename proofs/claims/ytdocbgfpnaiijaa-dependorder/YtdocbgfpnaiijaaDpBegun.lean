/-
  Layer 10 (depend): begun: a search that knows but the links of one step.
-/
import Derived.Test.YtdocbgfpnaiijaaDpSpots
import Derived.Test.YtdocbgfpnaiijaaFiSettled
import Derived.Test.YtdocbgfpnaiijaaFoLook
import Derived.Test.YtdocbgfpnaiijaaGrOwn
namespace Go.Proofs.Ytdocbgfpnaiijaa
open Go.RowKit Go.Conc

/-- the search, as a value: N nonterminals -/
def dpC (H S C N : Nat) : Array Value := #[.slice (some ⟨H, 0, none⟩) N N, .slice (some ⟨S, 0, none⟩) N N, .chan (some C)]
theorem dfind_N (N M : Nat) (hM : M + 1 = N) (st : Fi.St) (S C cap H : Nat) (Bs : List Nat) (a t : Int) (w : World) (hG : GAt S C N cap Bs st w) (hlen : st.ss.length = N) (ha : 0 ≤ a ∧ a < N) (ht : 0 ≤ t ∧ t < N) (hr : Fi.has st.ss a t = false → st.q.length < cap) :
    Calls Try.prog 68 #[.agg (dpC H S C N), gainV (a, t)] w fun e w' => e = .returned (.tuple #[]) ∧ Hid (ButL (C :: Bs) w w') ∧ Hid (GAt S C N cap Bs (Fi.grow st a t) w') := by
  subst hM
  exact dfind_any st M S C cap H Bs a t w hG hlen ha ht hr
theorem make_chanD (z : Int) (n : Nat) (e : z = n) (h : n ≤ 100000) (W : World) : (Instr.makeChan 69 (.int .i64 z)).run Try.prog W = .ok (.chan (some W.heap.size)) (W.alloc (.chan n #[] false 0 0 false)) := by
  subst e
  have hinfo : (Try.prog.info? 75).map (fun i => (i.zero, i.size, i.bytes)) = some (some (.agg #[.int .i64 0, .int .i64 0]), 2, 16) := by kernel_rfl
  obtain ⟨iA, hi, hz0, hz1, hz2⟩ := info_parts hinfo
  exact run_makeChan (P := Try.prog) (w := W) Try.underlying69 hi .i64 n (by omega) (by rw [hz2]; omega)

/-- behind the making of the search -/
structure DpMade (g : Gr.Gm) (A : GA) (H S C b : Nat) (w W : World) : Prop where
  below : Below w.heap.size w W
  lt : w.heap.size + 2 ≤ H ∧ w.heap.size + 2 ≤ S ∧ w.heap.size + 2 ≤ C ∧ w.heap.size + 2 ≤ b
  gb : W.heap[w.heap.size]? = some (.cells #[.slice A.ta g.terms.length A.tc, .slice A.na g.names.length A.nc, .slice A.ra g.rules.length A.rc] 25 (0, 0))
  rb : W.heap[w.heap.size + 1]? = some (.cells #[.slice none 0 0, .slice none 0 0, .chan none] 71 (0, 0))
  sb : W.heap[b]? = some (.cells #[.slice (some ⟨H, 0, none⟩) g.names.length g.names.length, .slice (some ⟨S, 0, none⟩) g.names.length g.names.length, .chan (some C)] 71 (0, 0))
  hb : W.heap[H]? = some (.cells (Array.replicate g.names.length (Value.slice none 0 0)) 29 (0, 0))
  ssb : W.heap[S]? = some (.cells (Array.replicate g.names.length (Value.slice none 0 0)) 28 (0, 0))
  ch : W.heap[C]? = some (.chan (g.names.length * g.names.length) #[] false 0 0 false)
theorem dpmade_set {g : Gr.Gm} {A : GA} {H S C b : Nat} {w W : World} (hlt : w.heap.size + 2 ≤ H ∧ w.heap.size + 2 ≤ S ∧ w.heap.size + 2 ≤ C) (i3 : W.heap[H]? = some (.cells (Array.replicate g.names.length (Value.slice none 0 0)) 29 (0, 0))) (i5 : W.heap[S]? = some (.cells (Array.replicate g.names.length (Value.slice none 0 0)) 28 (0, 0))) (i7 : W.heap[C]? = some (.chan (g.names.length * g.names.length) #[] false 0 0 false)) (hb : w.heap.size + 2 ≤ b) (hbk : W.heap[b]? = some (.cells #[.slice none 0 0, .slice none 0 0, .chan none] 71 (0, 0))) (hW : Below w.heap.size w W)
    (g0 : W.heap[w.heap.size]? = some (.cells #[.slice A.ta g.terms.length A.tc, .slice A.na g.names.length A.nc, .slice A.ra g.rules.length A.rc] 25 (0, 0))) (r0 : W.heap[w.heap.size + 1]? = some (.cells #[.slice none 0 0, .slice none 0 0, .chan none] 71 (0, 0))) :
    DpMade g A H S C b w (((W.setCell ⟨b, 0, none⟩ (.slice (some ⟨H, 0, none⟩) g.names.length g.names.length)).setCell ⟨b, 1, none⟩ (.slice (some ⟨S, 0, none⟩) g.names.length g.names.length)).setCell ⟨b, 2, none⟩ (.chan (some C))) := by
  have kp : ∀ {k : Nat}, k ≠ b → (((W.setCell ⟨b, 0, none⟩ (.slice (some ⟨H, 0, none⟩) g.names.length g.names.length)).setCell ⟨b, 1, none⟩ (.slice (some ⟨S, 0, none⟩) g.names.length g.names.length)).setCell ⟨b, 2, none⟩ (.chan (some C))).heap[k]? = W.heap[k]? := fun hk => (Below.heap_setCell _ _ _ _ hk).trans ((Below.heap_setCell _ _ _ _ hk).trans (Below.heap_setCell _ _ _ _ hk))
  have nH : H ≠ b := fun e => by rw [e, hbk] at i3; exact absurd (Obj.cells.inj (Option.some.inj i3)).2.1 (by decide)
  have nS : S ≠ b := fun e => by rw [e, hbk] at i5; exact absurd (Obj.cells.inj (Option.some.inj i5)).2.1 (by decide)
  have nC : C ≠ b := fun e => by rw [e, hbk] at i7; cases i7
  exact ⟨((hW.setCell (by show w.heap.size ≤ b; omega) _).setCell (by show w.heap.size ≤ b; omega) _).setCell (by show w.heap.size ≤ b; omega) _, ⟨hlt.1, hlt.2.1, hlt.2.2, hb⟩, (kp (by omega)).trans g0, (kp (by omega)).trans r0, gset hbk, (kp nH).trans i3, (kp nS).trans i5, (kp nC).trans i7⟩

/-- a search that has been begun -/
structure DpS (lk : List (Int × Int)) (N : Nat) (H S C : Nat) (Bs : List Nat) (vs : List Value) (hs : List (List Int)) (st : Fi.St) (w w' : World) : Prop where
  below : Below w.heap.size w w'
  lt : w.heap.size ≤ C ∧ ∀ b ∈ Bs, w.heap.size ≤ b
  hei : LAt w.heap.size H vs hs w'
  heirs : Dp.Heirs (fun a b => (b, a) ∈ lk) N hs
  small : ∀ a : Nat, (hs.getD a []).length ≤ 480
  at' : GAt S C N (N * N) Bs st w'
  inv : Dp.Inv (fun a v => (a, v) ∈ lk) (fun a b => (b, a) ∈ lk) (N - 1) N (fun _ _ _ => False) st

set_option maxRecDepth 100000 in
set_option maxHeartbeats 12800000 in
theorem dbegun_any (g : Gr.Gm) (A : GA) (l : List (Int × Int)) (lo : Option Addr) (lc : Nat) (w : World) (hg : Gr.good g = true) (h : GmAt w.heap.size w g A) (hl : SpotsAt w.heap.size w lo l) (h480 : l.length ≤ 480)
    (hin : ∀ s ∈ l, ∃ r, ∃ hr : r < g.rules.length, ∃ k, ∃ hk : k < g.rules[r].2.length, (g.terms.length : Int) ≤ g.rules[r].2[k] ∧ s = ((r : Int), (k : Int))) :
    Calls Try.prog 67 #[.agg (gmCells g A), .slice lo l.length lc] w fun e w' => ∃ H S C, e = .returned (.agg (dpC H S C g.names.length)) ∧ ∃ Bs vs hs st, Hid (DpS (l.map (Dp.link g.terms.length g.rules)) g.names.length H S C Bs vs hs st w w') := by
  obtain ⟨ta, tc, na, nc, ra, rac⟩ := A
  have HG : Hid (GmAt w.heap.size w g ⟨ta, tc, na, nc, ra, rac⟩) := h
  have HL : Hid (SpotsAt w.heap.size w lo l) := hl
  have HIN : Hid _ := hin
  have HGD : Hid (Gr.good g = true) := hg
  obtain ⟨hsz, _⟩ := Nl.sizes_of hg
  have hN0 : 0 < g.names.length := by omega
  have hNN : g.names.length * g.names.length ≤ 40 * 40 := Nat.mul_le_mul (by omega) (by omega)
  have hml := make_rowsI (g.names.length : Int) g.names.length rfl (by omega)
  have hmb := make_rowsB (g.names.length : Int) g.names.length rfl (by omega)
  have hmc := make_chanD ((g.names.length : Int) * (g.names.length : Int)) (g.names.length * g.names.length) (by simp) (by omega)
  have hme := make_boolsN g.names.length (by omega)
  have hwm : IntKind.wrap .i64 ((g.names.length : Int) * (g.names.length : Int)) = (g.names.length : Int) * (g.names.length : Int) := by
    have e : (g.names.length : Int) * (g.names.length : Int) = ((g.names.length * g.names.length : Nat) : Int) := by simp
    rw [e, IntKind.wrap_i64]; omega
  clear h hl hin hg
  simp only [gmCells]
  have hB : Hid (Below w.heap.size w ((w.alloc (Obj.cells #[.slice ta g.terms.length tc, .slice na g.names.length nc, .slice ra g.rules.length rac] 25)).alloc (Obj.cells #[.slice none 0 0, .slice none 0 0, .chan none] 71))) := ((Below.refl _ w).alloc (Nat.le_refl _) _).alloc (by simp) _
  have b0 : Hid (((w.alloc (Obj.cells #[.slice ta g.terms.length tc, .slice na g.names.length nc, .slice ra g.rules.length rac] 25)).alloc (Obj.cells #[.slice none 0 0, .slice none 0 0, .chan none] 71)).heap[w.heap.size]? = some (.cells #[.slice ta g.terms.length tc, .slice na g.names.length nc, .slice ra g.rules.length rac] 25 (0, 0))) := by
    show _ = _; rw [Below.heap_alloc _ _ _ (by simp)]; exact heap_alloc_new w _
  have b1 : Hid (((w.alloc (Obj.cells #[.slice ta g.terms.length tc, .slice na g.names.length nc, .slice ra g.rules.length rac] 25)).alloc (Obj.cells #[.slice none 0 0, .slice none 0 0, .chan none] 71)).heap[w.heap.size + 1]? = some (.cells #[.slice none 0 0, .slice none 0 0, .chan none] 71 (0, 0))) := by
    show _ = _
    have := heap_alloc_new (w.alloc (Obj.cells #[.slice ta g.terms.length tc, .slice na g.names.length nc, .slice ra g.rules.length rac] 25)) (Obj.cells #[.slice none 0 0, .slice none 0 0, .chan none] 71)
    simpa using this
  have hWs : Hid (((w.alloc (Obj.cells #[.slice ta g.terms.length tc, .slice na g.names.length nc, .slice ra g.rules.length rac] 25)).alloc (Obj.cells #[.slice none 0 0, .slice none 0 0, .chan none] 71)).heap.size = w.heap.size + 2) := by show _ = _; simp
  go_enter Try.func67, Try.ntmps67
  go_upto_region 1 with fail
  generalize ((w.alloc (Obj.cells #[.slice ta g.terms.length tc, .slice na g.names.length nc, .slice ra g.rules.length rac] 25)).alloc (Obj.cells #[.slice none 0 0, .slice none 0 0, .chan none] 71)) = W at *
  obtain ⟨g0, g1, g2, _⟩ := cells_three_z b0.out
  have hgz := (Array.getElem?_eq_some_iff.1 b0.out).1
  go_upto_region 2 with fail
  clear g0 g1 g2 hgz
  have HS1 : Hid (∀ w1 : World, Lat W.drew w1 → Below w.heap.size w w1 ∧ w.heap.size + 2 ≤ w1.heap.size ∧ Below W.heap.size W w1) := fun w1 hL => by
    have h := hL.of_drew
    exact ⟨hB.out.trans (Below.mono h hB.out.size), by have := h.size; rw [hWs.out] at this; exact this, h⟩
  refine wp_region_lat [.val (.int .i64 (g.names.length : Int)), .fact (fun v w' => ∃ H, v = .slice (some ⟨H, 0, none⟩) g.names.length g.names.length ∧ w.heap.size + 2 ≤ H ∧ w'.heap[H]? = some (.cells (Array.replicate g.names.length (Value.slice none 0 0)) 29 (0, 0))), .val (.int .i64 (g.names.length : Int)), .fact (fun v w' => ∃ S, v = .slice (some ⟨S, 0, none⟩) g.names.length g.names.length ∧ w.heap.size + 2 ≤ S ∧ w'.heap[S]? = some (.cells (Array.replicate g.names.length (Value.slice none 0 0)) 28 (0, 0))), .val (.int .i64 (g.names.length : Int)), .val (.int .i64 (g.names.length : Int)), .val (.int .i64 ((g.names.length : Int) * (g.names.length : Int))), .fact (fun v w' => ∃ C, v = .chan (some C) ∧ w.heap.size + 2 ≤ C ∧ w'.heap[C]? = some (.chan (g.names.length * g.names.length) #[] false 0 0 false)),
    .fact (fun v w' => ∃ H S C, v = .agg (dpC H S C g.names.length) ∧ (w.heap.size + 2 ≤ H ∧ w.heap.size + 2 ≤ S ∧ w.heap.size + 2 ≤ C) ∧ w'.heap[H]? = some (.cells (Array.replicate g.names.length (Value.slice none 0 0)) 29 (0, 0)) ∧ w'.heap[S]? = some (.cells (Array.replicate g.names.length (Value.slice none 0 0)) 28 (0, 0)) ∧ w'.heap[C]? = some (.chan (g.names.length * g.names.length) #[] false 0 0 false)),
    .fact (fun v w' => ∃ b, v = .pointer (some ⟨b, 0, none⟩) ∧ w.heap.size + 2 ≤ b ∧ w'.heap[b]? = some (.cells #[.slice none 0 0, .slice none 0 0, .chan none] 71 (0, 0)))] [_] (by kernel_rfl) (by kernel_rfl) rfl ?kept ?walk
  case kept =>
    have kp : ∀ {b : Nat} {o : Obj} {w1 w2 : World}, Lat w1 w2 → w1.heap[b]? = some o → w2.heap[b]? = some o := fun hL h => by rw [hL.block _ (Array.getElem?_eq_some_iff.1 h).1]; exact h
    exact ⟨fun v w1 w2 hL ⟨I, e, h1, h2⟩ => ⟨I, e, h1, kp hL h2⟩, fun v w1 w2 hL ⟨I, e, h1, h2⟩ => ⟨I, e, h1, kp hL h2⟩, fun v w1 w2 hL ⟨I, e, h1, h2⟩ => ⟨I, e, h1, kp hL h2⟩, fun v w1 w2 hL ⟨H, S, C, e, h1, h2, h3, h4⟩ => ⟨H, S, C, e, h1, kp hL h2, kp hL h3, kp hL h4⟩, fun v w1 w2 hL ⟨I, e, h1, h2⟩ => ⟨I, e, h1, kp hL h2⟩, trivial⟩
  case walk =>
    refine wpFacts_val (by rfl) (fun w1 hL hd K hK => ?_) ?_
    · go_simp
      exact hK _ (Lat.refl _)
    refine wpFacts_norm (by simp only [Act.put, List.setIfInBounds_toArray, List.set_cons_zero, List.set_cons_succ]; rfl) (by simp only [List.nil_append]; rfl) ?_
    refine wpFacts_fact (by rfl) (fun w1 hL hd K hK => ?_) (fun v3 => ?_)
    · go_simp
      exact hK _ _ (Below.alloc (Below.refl _ _) (Nat.le_refl _) _) ⟨_, rfl, (HS1.out w1 hL).2.1, heap_alloc_new _ _⟩
    refine wpFacts_norm (by simp only [Act.put, List.setIfInBounds_toArray, List.set_cons_zero, List.set_cons_succ]; rfl) (by simp only [List.cons_append, List.nil_append]; rfl) ?_
    refine wpFacts_val (by rfl) (fun w1 hL hd K hK => ?_) ?_
    · go_simp
      exact hK _ (Lat.refl _)
    refine wpFacts_norm (by simp only [Act.put, List.setIfInBounds_toArray, List.set_cons_zero, List.set_cons_succ]; rfl) (by simp only [List.cons_append, List.nil_append]; rfl) ?_
    refine wpFacts_fact (by rfl) (fun w1 hL hd K hK => ?_) (fun v5 => ?_)
    · go_simp
      exact hK _ _ (Below.alloc (Below.refl _ _) (Nat.le_refl _) _) ⟨_, rfl, (HS1.out w1 hL).2.1, heap_alloc_new _ _⟩
    refine wpFacts_norm (by simp only [Act.put, List.setIfInBounds_toArray, List.set_cons_zero, List.set_cons_succ]; rfl) (by simp only [List.cons_append, List.nil_append]; rfl) ?_
    refine wpFacts_val (by rfl) (fun w1 hL hd K hK => ?_) ?_
    · go_simp
      exact hK _ (Lat.refl _)
    refine wpFacts_norm (by simp only [Act.put, List.setIfInBounds_toArray, List.set_cons_zero, List.set_cons_succ]; rfl) (by simp only [List.cons_append, List.nil_append]; rfl) ?_
    refine wpFacts_val (by rfl) (fun w1 hL hd K hK => ?_) ?_
    · go_simp
      exact hK _ (Lat.refl _)
    refine wpFacts_norm (by simp only [Act.put, List.setIfInBounds_toArray, List.set_cons_zero, List.set_cons_succ]; rfl) (by simp only [List.cons_append, List.nil_append]; rfl) ?_
    refine wpFacts_val (by rfl) (fun w1 hL hd K hK => ?_) ?_
    · go_simp
      exact hK _ (Lat.refl _)
    refine wpFacts_norm (by simp only [Act.put, List.setIfInBounds_toArray, List.set_cons_zero, List.set_cons_succ]; rfl) (by simp only [List.cons_append, List.nil_append]; rfl) ?_
    refine wpFacts_fact (by rfl) (fun w1 hL hd K hK => ?_) (fun v11 => ?_)
    · go_simp
      exact hK _ _ (Below.alloc (Below.refl _ _) (Nat.le_refl _) _) ⟨_, rfl, (HS1.out w1 hL).2.1, heap_alloc_new _ _⟩
    refine wpFacts_norm (by simp only [Act.put, List.setIfInBounds_toArray, List.set_cons_zero, List.set_cons_succ]; rfl) (by simp only [List.cons_append, List.nil_append]; rfl) ?_
    refine wpFacts_fact (by rfl) (fun w1 hL hd K hK => ?_) (fun v12 => ?_)
    · obtain ⟨H, rfl, j1, i3⟩ : ∃ H, v3 = .slice (some ⟨H, 0, none⟩) g.names.length g.names.length ∧ w.heap.size + 2 ≤ H ∧ w1.heap[H]? = some (.cells (Array.replicate g.names.length (Value.slice none 0 0)) 29 (0, 0)) := hd.1
      obtain ⟨S, rfl, j2, i5⟩ : ∃ S, v5 = .slice (some ⟨S, 0, none⟩) g.names.length g.names.length ∧ w.heap.size + 2 ≤ S ∧ w1.heap[S]? = some (.cells (Array.replicate g.names.length (Value.slice none 0 0)) 28 (0, 0)) := hd.2.1
      obtain ⟨C, rfl, j3, i7⟩ : ∃ C, v11 = .chan (some C) ∧ w.heap.size + 2 ≤ C ∧ w1.heap[C]? = some (.chan (g.names.length * g.names.length) #[] false 0 0 false) := hd.2.2.1
      have IJ : Hid (w1.heap[H]? = some (.cells (Array.replicate g.names.length (Value.slice none 0 0)) 29 (0, 0)) ∧ w1.heap[S]? = some (.cells (Array.replicate g.names.length (Value.slice none 0 0)) 28 (0, 0)) ∧ w1.heap[C]? = some (.chan (g.names.length * g.names.length) #[] false 0 0 false)) := ⟨i3, i5, i7⟩
      clear i3 i5 i7
      go_simp
      exact hK _ _ (Lat.refl _) ⟨H, S, C, rfl, ⟨j1, j2, j3⟩, IJ.out⟩
    refine wpFacts_norm (by simp only [Act.put, List.setIfInBounds_toArray, List.set_cons_zero, List.set_cons_succ]; rfl) (by simp only [List.cons_append, List.nil_append]; rfl) ?_
    refine wpFacts_fact (by rfl) (fun w1 hL hd K hK => ?_) (fun v13 => ?_)
    · go_simp
      exact hK _ _ (Below.alloc (Below.refl _ _) (Nat.le_refl _) _) ⟨_, rfl, (HS1.out w1 hL).2.1, heap_alloc_new _ _⟩
    refine wpFacts_norm (by simp only [Act.put, List.setIfInBounds_toArray, List.set_cons_zero, List.set_cons_succ]; rfl) (by simp only [List.cons_append, List.nil_append]; rfl) ?_
    intro w1 hL ha
    obtain ⟨H, S, C, rfl, hlt, i3, i5, i7⟩ : ∃ H S C, v12 = .agg (dpC H S C g.names.length) ∧ (w.heap.size + 2 ≤ H ∧ w.heap.size + 2 ≤ S ∧ w.heap.size + 2 ≤ C) ∧ w1.heap[H]? = some (.cells (Array.replicate g.names.length (Value.slice none 0 0)) 29 (0, 0)) ∧ w1.heap[S]? = some (.cells (Array.replicate g.names.length (Value.slice none 0 0)) 28 (0, 0)) ∧ w1.heap[C]? = some (.chan (g.names.length * g.names.length) #[] false 0 0 false) := allHold_get 8 ha rfl rfl
    obtain ⟨b, rfl, hbM, hbk⟩ : ∃ b, v13 = .pointer (some ⟨b, 0, none⟩) ∧ w.heap.size + 2 ≤ b ∧ w1.heap[b]? = some (.cells #[.slice none 0 0, .slice none 0 0, .chan none] 71 (0, 0)) := allHold_get 9 ha rfl rfl
    clear ha
    have HI : Hid (DpMade g ⟨ta, tc, na, nc, ra, rac⟩ H S C b w (((w1.setCell ⟨b, 0, none⟩ (.slice (some ⟨H, 0, none⟩) g.names.length g.names.length)).setCell ⟨b, 1, none⟩ (.slice (some ⟨S, 0, none⟩) g.names.length g.names.length)).setCell ⟨b, 2, none⟩ (.chan (some C)))) := dpmade_set hlt i3 i5 i7 hbM hbk (HS1.out w1 hL).1 (by rw [(HS1.out w1 hL).2.2.block _ (by rw [hWs.out]; omega)]; exact b0.out) (by rw [(HS1.out w1 hL).2.2.block _ (by rw [hWs.out]; omega)]; exact b1.out)
    obtain ⟨c0, c1, c2, z0, z1, z2⟩ := cells_three_z hbk
    have hbl := (Array.getElem?_eq_some_iff.1 hbk).1
    clear i3 i5 i7 hbk hL HS1 b0 b1 hWs hB hml hmb hmc hwm
    simp only [dpC]
    go_upto_region 3 with fail
    generalize (((w1.setCell ⟨b, 0, none⟩ (.slice (some ⟨H, 0, none⟩) g.names.length g.names.length)).setCell ⟨b, 1, none⟩ (.slice (some ⟨S, 0, none⟩) g.names.length g.names.length)).setCell ⟨b, 2, none⟩ (.chan (some C))) = W2 at *
    clear c0 c1 c2 z0 z1 z2 hbl
    have hsb2 : W2.heap[b]? = some (.cells #[.slice (some ⟨H, 0, none⟩) g.names.length g.names.length, .slice (some ⟨S, 0, none⟩) g.names.length g.names.length, .chan (some C)] 71 (0, 0)) := HI.out.sb
    obtain ⟨c0, c1, c2, _⟩ := cells_three_z hsb2
    have hbl2 := (Array.getElem?_eq_some_iff.1 hsb2).1
    have NBS : b ≠ S := fun e => by
      have h1 := hsb2
      rw [e, HI.out.ssb] at h1
      exact absurd (Obj.cells.inj (Option.some.inj h1)).2.1 (by decide)
    go_wp2_with fail
    go_loopw [26] (fun i wr => ∃ (k : Nat) (Bs : List Nat), k ≤ g.names.length ∧ i = .int .i64 k ∧ Bs.length = k ∧ Hid (FRows W2 wr S g.names.length g.names.length Bs)) (fun i _ => g.names.length - (intOf i).toNat)
    case atStart => exact ⟨0, [], Nat.zero_le _, rfl, rfl, ⟨ButL.refl _ _, by rw [HI.out.ssb]; simp [hdrs], fun b hb => by simp at hb, List.nodup_nil⟩⟩
    case round =>
      obtain ⟨k, Bs, hk, rfl, hBs, hR⟩ := hrel
      clear c0 c1 c2
      have hsb4 : wr.heap[b]? = some (.cells #[.slice (some ⟨H, 0, none⟩) g.names.length g.names.length, .slice (some ⟨S, 0, none⟩) g.names.length g.names.length, .chan (some C)] 71 (0, 0)) := (hR.out.but.block b hbl2 (by simpa using NBS)).trans hsb2
      have hbl4 := (Array.getElem?_eq_some_iff.1 hsb4).1
      by_cases hkl : k < g.names.length
      · have hki : (k : Int) < (g.names.length : Int) := by omega
        have HC : Hid (∀ w1 : World, Lat wr.drew w1 → w1.cell? ⟨b, 1, none⟩ = some (.slice (some ⟨S, 0, none⟩) g.names.length g.names.length)) := fun w1 hL => (cells_three_z ((hL.of_drew.block _ hbl4).trans hsb4)).2.1
        have hSl := (Array.getElem?_eq_some_iff.1 hR.out.sb).1
        go_upto_region 6 with fail
        refine wp_region_lat [.val (.pointer (some ⟨b, 1, none⟩)), .val (.slice (some ⟨S, 0, none⟩) g.names.length g.names.length), .val (.int .i64 (k : Int)), .val (.int .i64 (g.names.length : Int)),
          .fact (fun v w' => ∃ B, v = .slice (some ⟨B, 0, none⟩) g.names.length g.names.length ∧ wr.heap.size ≤ B ∧ w'.heap[B]? = some (.cells (Array.replicate g.names.length (Value.bool false)) 4 (0, 0))),
          .val (.pointer (some ⟨S, k, none⟩))] [_] (by kernel_rfl) (by kernel_rfl) rfl ?kept3 ?walk3
        case kept3 => exact ⟨fun v w1 w2 hL ⟨d, e, h1, h2⟩ => ⟨d, e, h1, by rw [hL.block _ (Array.getElem?_eq_some_iff.1 h2).1]; exact h2⟩, trivial⟩
        case walk3 =>
          refine wpFacts_val (by rfl) (fun w1 hL hd K hK => ?_) ?_
          · go_simp
            exact hK _ (Lat.refl _)
          refine wpFacts_norm (by simp only [Act.put, List.setIfInBounds_toArray, List.set_cons_zero, List.set_cons_succ]; rfl) (by simp only [List.nil_append]; rfl) ?_
          refine wpFacts_val (by rfl) (fun w1 hL hd K hK => ?_) ?_
          · have d0 := HC.out w1 hL
            go_simp
            exact hK _ (Lat.refl _)
          refine wpFacts_norm (by simp only [Act.put, List.setIfInBounds_toArray, List.set_cons_zero, List.set_cons_succ]; rfl) (by simp only [List.cons_append, List.nil_append]; rfl) ?_
          refine wpFacts_val (by rfl) (fun w1 hL hd K hK => ?_) ?_
          · go_simp
            exact hK _ (Lat.refl _)
          refine wpFacts_norm (by simp only [Act.put, List.setIfInBounds_toArray, List.set_cons_zero, List.set_cons_succ]; rfl) (by simp only [List.cons_append, List.nil_append]; rfl) ?_
          refine wpFacts_val (by rfl) (fun w1 hL hd K hK => ?_) ?_
          · go_simp
            exact hK _ (Lat.refl _)
          refine wpFacts_norm (by simp only [Act.put, List.setIfInBounds_toArray, List.set_cons_zero, List.set_cons_succ]; rfl) (by simp only [List.cons_append, List.nil_append]; rfl) ?_
          refine wpFacts_fact (by rfl) (fun w1 hL hd K hK => ?_) (fun v6 => ?_)
          · go_simp
            exact hK _ _ (Below.alloc (Below.refl _ _) (Nat.le_refl _) _) ⟨_, rfl, hL.of_drew.size, heap_alloc_new _ _⟩
          refine wpFacts_norm (by simp only [Act.put, List.setIfInBounds_toArray, List.set_cons_zero, List.set_cons_succ]; rfl) (by simp only [List.cons_append, List.nil_append]; rfl) ?_
          refine wpFacts_val (by rfl) (fun w1 hL hd K hK => ?_) ?_
          · go_simp
            exact hK _ (Lat.refl _)
          refine wpFacts_norm (by simp only [Act.put, List.setIfInBounds_toArray, List.set_cons_zero, List.set_cons_succ]; rfl) (by simp only [List.cons_append, List.nil_append]; rfl) ?_
          intro w1 hL ha
          obtain ⟨B, rfl, hB1, hB2⟩ : ∃ B, v6 = .slice (some ⟨B, 0, none⟩) g.names.length g.names.length ∧ wr.heap.size ≤ B ∧ w1.heap[B]? = some (.cells (Array.replicate g.names.length (Value.bool false)) 4 (0, 0)) := allHold_get 4 ha rfl rfl
          clear ha
          have hS1 : w1.heap[S]? = some (.cells (hdrs Bs g.names.length g.names.length).toArray 28 (0, 0)) := (hL.of_drew.block _ hSl).trans hR.out.sb
          have f0 : w1.frozen? ⟨S, k, none⟩ = false := by simp [World.frozen?, hS1]
          have hS1l := (Array.getElem?_eq_some_iff.1 hS1).1
          have hkh : k < (hdrs Bs g.names.length g.names.length).length := by rw [hdrs_len _ _ _ (by omega)]; exact hkl
          have c0 : w1.cell? ⟨S, k, none⟩ = some ((hdrs Bs g.names.length g.names.length)[k]) := by simp [World.cell?, hS1, hkh]
          have hN : Hid (FRows W2 (w1.setCell ⟨S, k, none⟩ (.slice (some ⟨B, 0, none⟩) g.names.length g.names.length)) S g.names.length g.names.length (Bs ++ [B])) := by
            have := hR.out.push (by omega) hL.of_drew hB1 hB2 (Array.getElem?_eq_some_iff.1 HI.out.ssb).1
            rw [hBs] at this
            exact this
          clear hB1 hB2 hS1 hL hR HC hsb4 hbl4
          go_wp2_with fail
          go_roundw
          case rel => exact ⟨k + 1, _, by omega, by go_num, by simp [hBs], hN⟩
          case measure => simp [intOf]; omega
      · obtain rfl : k = g.names.length := by omega
        have hki : ¬ (g.names.length : Int) < (g.names.length : Int) := by omega
        have R4 : Hid (RowsAt S g.names.length Bs (List.replicate g.names.length (List.replicate g.names.length false)) wr) := hR.out.done hBs
        have NSC : C ≠ S := fun e => by
          have h1 := HI.out.ch
          rw [e, HI.out.ssb] at h1; cases h1
        have NHS : H ≠ S := fun e => by
          have h1 := HI.out.hb
          rw [e, HI.out.ssb] at h1
          exact absurd (Obj.cells.inj (Option.some.inj h1)).2.1 (by decide)
        have BK : Hid (∀ k, k < W2.heap.size → k ≠ S → wr.heap[k]? = W2.heap[k]?) := fun k hk hne => hR.out.but.block k hk (by simpa using hne)
        have C4 : Hid (wr.heap[C]? = some (.chan (g.names.length * g.names.length) #[] false 0 0 false)) := (BK.out C (Array.getElem?_eq_some_iff.1 HI.out.ch).1 NSC).trans HI.out.ch
        have GB4 : Hid (wr.heap[w.heap.size]? = some (.cells #[.slice ta g.terms.length tc, .slice na g.names.length nc, .slice ra g.rules.length rac] 25 (0, 0))) := (BK.out _ (Array.getElem?_eq_some_iff.1 HI.out.gb).1 (by have := HI.out.lt; omega)).trans HI.out.gb
        have RB4 : Hid (wr.heap[w.heap.size + 1]? = some (.cells #[.slice none 0 0, .slice none 0 0, .chan none] 71 (0, 0))) := (BK.out _ (Array.getElem?_eq_some_iff.1 HI.out.rb).1 (by have := HI.out.lt; omega)).trans HI.out.rb
        have H4 : Hid (wr.heap[H]? = some (.cells (Array.replicate g.names.length (Value.slice none 0 0)) 29 (0, 0))) := (BK.out H (Array.getElem?_eq_some_iff.1 HI.out.hb).1 NHS).trans HI.out.hb
        have BSG : Hid (∀ q ∈ Bs, W2.heap.size ≤ q ∧ q < wr.heap.size) := fun q hq => ⟨(hR.out.row q hq).1, (Array.getElem?_eq_some_iff.1 (hR.out.row q hq).2).1⟩
        have BW4 : Hid (Below w.heap.size w wr) := HI.out.below.trans (hR.out.but.below (fun q hq => by rw [List.mem_singleton] at hq; have := HI.out.lt; omega) HI.out.below.size)
        have L4 : Hid (LAt wr.heap.size H (List.replicate g.names.length (.slice none 0 0)) (List.replicate g.names.length []) wr) := LAt.start H4.out
        have G4 : Hid (GAt S C g.names.length (g.names.length * g.names.length) Bs ⟨List.replicate g.names.length (List.replicate g.names.length false), []⟩ wr) := ⟨R4.out, 0, 0, by rw [C4.out]; rfl⟩
        have SB4 : Hid (wr.heap[b]? = some (.cells #[.slice (some ⟨H, 0, none⟩) g.names.length g.names.length, .slice (some ⟨S, 0, none⟩) g.names.length g.names.length, .chan (some C)] 71 (0, 0))) := hsb4
        have LT : Hid (w.heap.size + 2 ≤ H ∧ w.heap.size + 2 ≤ S ∧ w.heap.size + 2 ≤ C ∧ w.heap.size + 2 ≤ b) := HI.out.lt
        have MW : Hid (w.heap.size + 2 ≤ W2.heap.size) := (Array.getElem?_eq_some_iff.1 HI.out.rb).1
        have NI : Hid (∀ (k : Nat) (cs : Array Value) (t : TypeId) (fr : Nat × Nat), wr.heap[k]? = some (.cells cs t fr) → t ≠ 4 → t ≠ 29 → k ∉ H :: C :: Bs) := fun k cs t fr hk h1 h2 q => by
          rcases List.mem_cons.1 q with q | q
          · rw [q, H4.out] at hk
            exact h2 (Obj.cells.inj (Option.some.inj hk)).2.1.symm
          · rcases List.mem_cons.1 q with q | q
            · rw [q, C4.out] at hk; cases hk
            · obtain ⟨i, hi, rfl⟩ := List.getElem_of_mem q
              rw [R4.out.row i hi] at hk
              exact h1 (Obj.cells.inj (Option.some.inj hk)).2.1.symm
        have NB : Hid (b ∉ H :: C :: Bs) := NI.out b _ _ _ SB4.out (by decide) (by decide)
        have NG : Hid (w.heap.size ∉ H :: C :: Bs) := NI.out _ _ _ _ GB4.out (by decide) (by decide)
        have NR : Hid (w.heap.size + 1 ∉ H :: C :: Bs) := NI.out _ _ _ _ RB4.out (by decide) (by decide)
        have LOW : Hid (∀ q ∈ H :: C :: Bs, w.heap.size ≤ q) := fun q hq => by
          have h1 := LT.out
          rcases List.mem_cons.1 hq with q | hq
          · omega
          · rcases List.mem_cons.1 hq with q | hq
            · omega
            · have := BSG.out _ hq; have := MW.out; omega
        have LTM : Hid (H < wr.heap.size ∧ S < wr.heap.size ∧ C < wr.heap.size ∧ ∀ b ∈ Bs, b < wr.heap.size) := ⟨(Array.getElem?_eq_some_iff.1 H4.out).1, R4.out.lt.1, (Array.getElem?_eq_some_iff.1 C4.out).1, fun q hq => (BSG.out q hq).2⟩
        obtain ⟨M, hM⟩ : ∃ M, M + 1 = g.names.length := ⟨g.names.length - 1, by omega⟩
        have BG0 : Hid (Dp.Bg (l.map (Dp.link g.terms.length g.rules)) M g.names.length 0 ⟨List.replicate g.names.length (List.replicate g.names.length false), []⟩ (List.replicate g.names.length [])) := by
          have := Dp.Bg.start (l.map (Dp.link g.terms.length g.rules)) M g.names.length
          rw [hM] at this
          exact this
        clear hR hsb4 BK HI hsb2 NBS NSC NHS NI hbl2 hme
        rename World => W3
        go_wp2_with fail
        go_loopw [38] (fun iv wr => ∃ (i : Nat) (st : Fi.St) (vs : List Value) (hs : List (List Int)), i ≤ l.length ∧ iv = .int .i64 i ∧ Hid (Amid W3.heap.size (H :: C :: Bs) W3 wr) ∧ Hid (GAt S C g.names.length (g.names.length * g.names.length) Bs st wr) ∧ Hid (LAt W3.heap.size H vs hs wr) ∧ Hid (Dp.Bg (l.map (Dp.link g.terms.length g.rules)) M g.names.length i st hs)) (fun i _ => l.length - (intOf i).toNat)
        case atStart => exact ⟨0, _, _, _, Nat.zero_le _, rfl, Amid.refl _ _ _, G4, L4, BG0⟩
        case round =>
          obtain ⟨i, st, vs, hs, hi, rfl, hA, hG, hL, hBg⟩ := hrel
          clear G4 L4 BG0
          by_cases hil : i < l.length
          · have hii : (i : Int) < (l.length : Int) := by omega
            obtain ⟨r, hr, k, hk, hxT, hsE⟩ := HIN.out _ (List.getElem_mem hil)
            have hm : g.rules[r] ∈ g.rules := List.getElem_mem hr
            have hlf := (Nl.fit_of HGD.out).left _ hm
            have hxf := (Nl.fit_of HGD.out).right _ hm _ (List.getElem_mem hk)
            obtain ⟨fa, hfa⟩ : ∃ fa : Nat, g.rules[r].1 - (g.terms.length : Int) = fa := ⟨(g.rules[r].1 - (g.terms.length : Int)).toNat, by omega⟩
            obtain ⟨ft, hft⟩ : ∃ ft : Nat, g.rules[r].2[k] - (g.terms.length : Int) = ft := ⟨(g.rules[r].2[k] - (g.terms.length : Int)).toNat, by omega⟩
            have hfaN : fa < g.names.length := by omega
            have hftN : ft < g.names.length := by omega
            have LE : Dp.link g.terms.length g.rules ((r : Int), (k : Int)) = ((fa : Int), (ft : Int)) := by rw [Dp.link_at hr hk, hfa, hft]
            have hlk : (l.map (Dp.link g.terms.length g.rules))[i]'(by simp; exact hil) = ((fa : Int), (ft : Int)) := by
              rw [List.getElem_map, hsE, LE]
            have STP := hBg.out.step hM (by simp; exact hil) (by rw [hlk]; exact ⟨⟨by omega, by show (fa : Int) < _; omega⟩, by show (0 : Int) ≤ ft; omega, by show (ft : Int) < _; omega⟩)
            rw [hlk] at STP
            have hsm0 := hBg.out.small ft
            have hlen := hBg.out.ok.shape.len
            have hhl := hBg.out.hlen
            have ST1 : Hid (Dp.Bg (l.map (Dp.link g.terms.length g.rules)) M g.names.length (i + 1) (Fi.grow st (fa : Int) (ft : Int)) (Dp.heirs st ((fa : Int), (ft : Int)) hs)) := STP.1
            have ST2 : Hid (Fi.has st.ss (fa : Int) (ft : Int) = false → st.q.length < g.names.length * g.names.length) := fun q => by have := STP.2 q; rw [hM] at this; exact this
            clear STP hlk hm hlf hxf hfa hft hBg
            have BWr : Hid (Below w.heap.size w wr) := BW4.out.trans (hA.out.below LOW.out BW4.out.size)
            have GBr : Hid (wr.heap[w.heap.size]? = some (.cells #[.slice ta g.terms.length tc, .slice na g.names.length nc, .slice ra g.rules.length rac] 25 (0, 0))) := (hA.out.other _ _ _ _ NG.out GB4.out (by decide)).trans GB4.out
            have SBr : Hid (wr.heap[b]? = some (.cells #[.slice (some ⟨H, 0, none⟩) g.names.length g.names.length, .slice (some ⟨S, 0, none⟩) g.names.length g.names.length, .chan (some C)] 71 (0, 0))) := (hA.out.other _ _ _ _ NB.out SB4.out (by decide)).trans SB4.out
            obtain ⟨xb, xof, rfl, _, _, x0, x1⟩ := (HL.out.later BWr.out) i hil
            rw [hsE] at x0 x1
            simp only at x0 x1
            have hxl := World.block_lt_of_cell? _ _ x0
            have hb5 : Hid (Below wr.heap.size wr (wr.alloc (Obj.cells #[.int .i64 (r : Int), .int .i64 (k : Int)] 48))) := (Below.refl _ wr).alloc (Nat.le_refl _) _
            have k5 : Hid ((wr.alloc (Obj.cells #[.int .i64 (r : Int), .int .i64 (k : Int)] 48)).heap[wr.heap.size]? = some (.cells #[.int .i64 (r : Int), .int .i64 (k : Int)] 48 (0, 0))) := heap_alloc_new wr _
            go_upto_region 11 with fail
            generalize (wr.alloc (Obj.cells #[.int .i64 (r : Int), .int .i64 (k : Int)] 48)) = W5 at *
            obtain ⟨R, hRe⟩ : ∃ R, wr.heap.size = R := ⟨_, rfl⟩
            clear x0 x1 hxl
            have BW5 : Hid (Below w.heap.size w W5) := BWr.out.trans (hb5.out.mono BWr.out.size)
            have HLO : Hid (Calls Try.prog 45 #[.agg (gmCells g ⟨ta, tc, na, nc, ra, rac⟩), .agg #[.int .i64 (r : Int), .int .i64 (k : Int)]] W5 fun e w' => e = .returned (.agg #[.int .i64 (fa : Int), .int .i64 (ft : Int)]) ∧ Hid (Below W5.heap.size W5 w')) := by
              have := linkOf_any g ⟨ta, tc, na, nc, ra, rac⟩ r k W5 hr hk HGD.out (HG.out.next BW5.out)
              rw [LE] at this
              exact this
            simp only [gmCells] at HLO
            obtain ⟨g0, g1, g2, _⟩ := cells_three_z ((hb5.out.block _ (Array.getElem?_eq_some_iff.1 GBr.out).1).trans GBr.out)
            have hgz5 := Nat.lt_of_lt_of_le (Array.getElem?_eq_some_iff.1 GBr.out).1 hb5.out.size
            obtain ⟨q0, q1, _⟩ := cells_two_z k5.out
            have hqz := (Array.getElem?_eq_some_iff.1 k5.out).1
            rw [hRe] at q0 q1 hqz ⊢
            go_wp2_with (go_at_call 45; fail)
            refine Calls.mono HLO.out ?_
            rintro e w6 ⟨rfl, hb6⟩
            have hb7 : Hid (Below w6.heap.size w6 (w6.alloc (Obj.cells #[.int .i64 (fa : Int), .int .i64 (ft : Int)] 75))) := (Below.refl _ w6).alloc (Nat.le_refl _) _
            have k7 : Hid ((w6.alloc (Obj.cells #[.int .i64 (fa : Int), .int .i64 (ft : Int)] 75)).heap[w6.heap.size]? = some (.cells #[.int .i64 (fa : Int), .int .i64 (ft : Int)] 75 (0, 0))) := heap_alloc_new w6 _
            have hz56 := hb5.out.size
            have hz66 := hb6.out.size
            have B7 : Hid (Below wr.heap.size wr (w6.alloc (Obj.cells #[.int .i64 (fa : Int), .int .i64 (ft : Int)] 75))) := (hb5.out.trans (hb6.out.mono hb5.out.size)).trans (hb7.out.mono (by omega))
            clear g0 g1 g2 hgz5 q0 q1 hqz HLO hb5 k5 hb6 hb7 hxT hsE LE
            go_upto_region 12 with fail
            generalize (w6.alloc (Obj.cells #[.int .i64 (fa : Int), .int .i64 (ft : Int)] 75)) = Wq at *
            have hXz : wr.heap.size ≤ w6.heap.size := by omega
            have hXW : W3.heap.size ≤ w6.heap.size := Nat.le_trans hA.out.size hXz
            generalize w6.heap.size = X at *
            have hAq : Hid (Amid W3.heap.size (H :: C :: Bs) W3 Wq) := hA.out.trans (Amid.of B7.out hA.out.size)
            have hGq : Hid _ := hG.out.later B7.out
            have hLq : Hid _ := hL.out.later B7.out
            have SBq : Hid (Wq.heap[b]? = some (.cells #[.slice (some ⟨H, 0, none⟩) g.names.length g.names.length, .slice (some ⟨S, 0, none⟩) g.names.length g.names.length, .chan (some C)] 71 (0, 0))) := (B7.out.block _ (Array.getElem?_eq_some_iff.1 SBr.out).1).trans SBr.out
            clear hA hG hL SBr B7 GBr BWr BW5 hRe hz56 hz66
            have haB : fa < Bs.length := by rw [hGq.out.rs.len, hlen]; exact hfaN
            have hai : (fa : Int) < (g.names.length : Int) := by omega
            have hti : (ft : Int) < (g.names.length : Int) := by omega
            have HC : Hid (∀ w1 : World, Lat Wq.drew w1 → w1.cell? ⟨b, 1, none⟩ = some (.slice (some ⟨S, 0, none⟩) g.names.length g.names.length) ∧ w1.cell? ⟨X, 0, none⟩ = some (.int .i64 (fa : Int)) ∧ w1.cell? ⟨X, 1, none⟩ = some (.int .i64 (ft : Int)) ∧ w1.cell? ⟨S, fa, none⟩ = some (.slice (some ⟨Bs[fa], 0, none⟩) g.names.length g.names.length) ∧ w1.cell? ⟨Bs[fa], ft, none⟩ = some (.bool (Fi.has st.ss (fa : Int) (ft : Int)))) := fun w1 hL => by
              obtain ⟨p0, p1, _⟩ := cells_two_z k7.out
              exact ⟨cell_later hL.of_drew (cells_three_z SBq.out).2.1, cell_later hL.of_drew p0, cell_later hL.of_drew p1, cell_later hL.of_drew (hGq.out.rs.head fa haB), cell_later hL.of_drew (hGq.out.rs.cell fa ft haB hftN).1⟩
            generalize Bs[fa] = Ba at *
            obtain ⟨bh, hbh⟩ : ∃ bh, Fi.has st.ss (fa : Int) (ft : Int) = bh := ⟨_, rfl⟩
            rw [hbh] at HC
            refine wp_region_lat [.val (.pointer (some ⟨b, 1, none⟩)), .val (.slice (some ⟨S, 0, none⟩) g.names.length g.names.length), .val (.pointer (some ⟨X, 0, none⟩)), .val (.int .i64 (fa : Int)), .val (.pointer (some ⟨S, fa, none⟩)), .val (.slice (some ⟨Ba, 0, none⟩) g.names.length g.names.length), .val (.pointer (some ⟨X, 1, none⟩)), .val (.int .i64 (ft : Int)), .val (.pointer (some ⟨Ba, ft, none⟩)), .val (.bool bh), .val (.bool (!bh))] [] (by kernel_rfl) (by kernel_rfl) rfl ?kept12 ?walk12
            case kept12 => exact trivial
            case walk12 =>
              refine wpFacts_val (by rfl) (fun w1 hL hd K hK => ?_) ?_
              · go_simp
                exact hK _ (Lat.refl _)
              refine wpFacts_norm (by simp only [Act.put, List.setIfInBounds_toArray, List.set_cons_zero, List.set_cons_succ]; rfl) (by simp only [List.nil_append]; rfl) ?_
              refine wpFacts_val (by rfl) (fun w1 hL hd K hK => ?_) ?_
              · obtain ⟨d0, d1, d2, d3, d4⟩ := HC.out w1 hL
                go_simp
                exact hK _ (Lat.refl _)
              refine wpFacts_norm (by simp only [Act.put, List.setIfInBounds_toArray, List.set_cons_zero, List.set_cons_succ]; rfl) (by simp only [List.cons_append, List.nil_append]; rfl) ?_
              refine wpFacts_val (by rfl) (fun w1 hL hd K hK => ?_) ?_
              · go_simp
                exact hK _ (Lat.refl _)
              refine wpFacts_norm (by simp only [Act.put, List.setIfInBounds_toArray, List.set_cons_zero, List.set_cons_succ]; rfl) (by simp only [List.cons_append, List.nil_append]; rfl) ?_
              refine wpFacts_val (by rfl) (fun w1 hL hd K hK => ?_) ?_
              · obtain ⟨d0, d1, d2, d3, d4⟩ := HC.out w1 hL
                go_simp
                exact hK _ (Lat.refl _)
              refine wpFacts_norm (by simp only [Act.put, List.setIfInBounds_toArray, List.set_cons_zero, List.set_cons_succ]; rfl) (by simp only [List.cons_append, List.nil_append]; rfl) ?_
              refine wpFacts_val (by rfl) (fun w1 hL hd K hK => ?_) ?_
              · go_simp
                exact hK _ (Lat.refl _)
              refine wpFacts_norm (by simp only [Act.put, List.setIfInBounds_toArray, List.set_cons_zero, List.set_cons_succ]; rfl) (by simp only [List.cons_append, List.nil_append]; rfl) ?_
              refine wpFacts_val (by rfl) (fun w1 hL hd K hK => ?_) ?_
              · obtain ⟨d0, d1, d2, d3, d4⟩ := HC.out w1 hL
                go_simp
                exact hK _ (Lat.refl _)
              refine wpFacts_norm (by simp only [Act.put, List.setIfInBounds_toArray, List.set_cons_zero, List.set_cons_succ]; rfl) (by simp only [List.cons_append, List.nil_append]; rfl) ?_
              refine wpFacts_val (by rfl) (fun w1 hL hd K hK => ?_) ?_
              · go_simp
                exact hK _ (Lat.refl _)
              refine wpFacts_norm (by simp only [Act.put, List.setIfInBounds_toArray, List.set_cons_zero, List.set_cons_succ]; rfl) (by simp only [List.cons_append, List.nil_append]; rfl) ?_
              refine wpFacts_val (by rfl) (fun w1 hL hd K hK => ?_) ?_
              · obtain ⟨d0, d1, d2, d3, d4⟩ := HC.out w1 hL
                go_simp
                exact hK _ (Lat.refl _)
              refine wpFacts_norm (by simp only [Act.put, List.setIfInBounds_toArray, List.set_cons_zero, List.set_cons_succ]; rfl) (by simp only [List.cons_append, List.nil_append]; rfl) ?_
              refine wpFacts_val (by rfl) (fun w1 hL hd K hK => ?_) ?_
              · go_simp
                exact hK _ (Lat.refl _)
              refine wpFacts_norm (by simp only [Act.put, List.setIfInBounds_toArray, List.set_cons_zero, List.set_cons_succ]; rfl) (by simp only [List.cons_append, List.nil_append]; rfl) ?_
              refine wpFacts_val (by rfl) (fun w1 hL hd K hK => ?_) ?_
              · obtain ⟨d0, d1, d2, d3, d4⟩ := HC.out w1 hL
                go_simp
                exact hK _ (Lat.refl _)
              refine wpFacts_norm (by simp only [Act.put, List.setIfInBounds_toArray, List.set_cons_zero, List.set_cons_succ]; rfl) (by simp only [List.cons_append, List.nil_append]; rfl) ?_
              refine wpFacts_val (by rfl) (fun w1 hL hd K hK => ?_) ?_
              · go_simp
                exact hK _ (Lat.refl _)
              refine wpFacts_norm (by simp only [Act.put, List.setIfInBounds_toArray, List.set_cons_zero, List.set_cons_succ]; rfl) (by simp only [List.cons_append, List.nil_append]; rfl) ?_
              intro wz hLz haz
              clear haz HC
              have hAz : Hid (Amid W3.heap.size (H :: C :: Bs) W3 wz) := hAq.out.trans (Amid.of hLz.of_drew hAq.out.size)
              have hGz : Hid (GAt S C g.names.length (g.names.length * g.names.length) Bs st wz) := hGq.out.later hLz.of_drew
              have hLz2 : Hid (LAt W3.heap.size H vs hs wz) := hLq.out.later hLz.of_drew
              have SBz : Hid (wz.heap[b]? = some (.cells #[.slice (some ⟨H, 0, none⟩) g.names.length g.names.length, .slice (some ⟨S, 0, none⟩) g.names.length g.names.length, .chan (some C)] 71 (0, 0))) := (hLz.of_drew.block _ (Array.getElem?_eq_some_iff.1 SBq.out).1).trans SBq.out
              have k7z : Hid (wz.heap[X]? = some (.cells #[.int .i64 (fa : Int), .int .i64 (ft : Int)] 75 (0, 0))) := (hLz.of_drew.block _ (Array.getElem?_eq_some_iff.1 k7.out).1).trans k7.out
              clear hAq hGq hLq SBq k7 hLz
              have NX : Hid (X ∉ H :: C :: Bs) := fun q => by
                have h1 := LTM.out
                have h2 := hXz
                have h3 : W3.heap.size ≤ X := hXW
                rcases List.mem_cons.1 q with q | q
                · omega
                · rcases List.mem_cons.1 q with q | q
                  · omega
                  · have := h1.2.2.2 _ q; omega
              cases bh
              · simp only [Bool.not_false]
                have HE : Hid (Dp.heirs st ((fa : Int), (ft : Int)) hs = Fi.push hs (ft : Int) (fa : Int)) := by show _ = _; unfold Dp.heirs; rw [if_neg (by simp only; rw [hbh]; simp)]
                have hlv : ft < vs.length := by rw [hLz2.out.len, hhl]; exact hftN
                obtain ⟨y0, hy0⟩ : ∃ y0, hs.getD ft [] = y0 := ⟨_, rfl⟩
                have HY0 : Hid (hs.getD ft [] = y0) := hy0
                have hown00 := hLz2.out.own ft hlv
                rw [hy0] at hown00 hsm0
                clear hy0
                obtain ⟨yo, yc, hyv, _⟩ := OwnInts.read hown00
                have hown0 : Hid (OwnInts W3.heap.size wz (.slice yo (y0).length yc) (y0)) := by have := hown00; rw [hyv] at this; exact this
                have hnB : (Value.slice yo (y0).length yc).ownBlock ≠ some b := ownsRow_ne hown0.out SBz.out (by decide)
                have hnX : (Value.slice yo (y0).length yc).ownBlock ≠ some X := ownsRow_ne hown0.out k7z.out (by decide)
                have hnH := hLz2.out.ne ft hlv
                rw [hyv] at hnH
                have HB1 : Hid (∀ w1 : World, RowR W3.heap.size (.slice yo (y0).length yc) (y0) (fa : Int) wz.drew w1 → w1.heap[b]? = wz.heap[b]? ∧ w1.heap[H]? = wz.heap[H]? ∧ w1.heap[X]? = wz.heap[X]?) := fun w1 hR => by
                  have h := hR.of_drew.grown
                  exact ⟨h.block b (Array.getElem?_eq_some_iff.1 SBz.out).1 (fun e => hnB e.symm), h.block H (Array.getElem?_eq_some_iff.1 hLz2.out.lb).1 (fun e => hnH e.symm), h.block X (Array.getElem?_eq_some_iff.1 k7z.out).1 (fun e => hnX e.symm)⟩
                have HC : Hid (∀ w1 : World, RowR W3.heap.size (.slice yo (y0).length yc) (y0) (fa : Int) wz.drew w1 → w1.cell? ⟨b, 0, none⟩ = some (.slice (some ⟨H, 0, none⟩) g.names.length g.names.length) ∧ w1.cell? ⟨X, 0, none⟩ = some (.int .i64 (fa : Int)) ∧ w1.cell? ⟨X, 1, none⟩ = some (.int .i64 (ft : Int)) ∧ w1.cell? ⟨H, ft, none⟩ = some (.slice yo (y0).length yc)) := fun w1 hR => by
                  obtain ⟨e1, e2, e3⟩ := HB1.out w1 hR
                  obtain ⟨p0, p1, _⟩ := cells_two_z (e3.trans k7z.out)
                  refine ⟨(cells_three_z (e1.trans SBz.out)).1, p0, p1, ?_⟩
                  rw [← hyv, World.cell?_of_block (a := ⟨H, ft, none⟩) e2]
                  exact (hLz2.out.cell ft hlv).1
                have hzr : W3.heap.size ≤ wz.heap.size := hAz.out.size
                clear hnB hnH hnX hown00
                go_upto_region 13 with fail
                refine wp_region_row W3.heap.size (.slice yo (y0).length yc) (y0) (fa : Int) [.val (.pointer (some ⟨b, 0, none⟩)), .val (.slice (some ⟨H, 0, none⟩) g.names.length g.names.length), .val (.pointer (some ⟨X, 1, none⟩)), .val (.int .i64 (ft : Int)), .val (.pointer (some ⟨b, 0, none⟩)), .val (.slice (some ⟨H, 0, none⟩) g.names.length g.names.length), .val (.pointer (some ⟨X, 1, none⟩)), .val (.int .i64 (ft : Int)), .val (.pointer (some ⟨H, ft, none⟩)), .val (.slice yo (y0).length yc), .val (.pointer (some ⟨X, 0, none⟩)), .val (.int .i64 (fa : Int)),
                  .fact (fun v w' => ∃ d, v = .slice (some ⟨d, 0, none⟩) 1 1 ∧ wz.heap.size ≤ d ∧ w'.heap[d]? = some (.cells #[.int .i64 (fa : Int)] 3 (0, 0))),
                  .fact (fun v w' => ∃ ga cap, v = .slice (some ⟨ga, 0, none⟩) ((y0).length + 1) cap ∧ OwnInts W3.heap.size w' (.slice (some ⟨ga, 0, none⟩) ((y0).length + 1) cap) (y0 ++ [(fa : Int)]) ∧ ((Value.slice yo (y0).length yc).ownBlock = some ga ∨ wz.heap.size ≤ ga)),
                  .val (.pointer (some ⟨H, ft, none⟩))] [_] (by kernel_rfl) (by kernel_rfl) rfl ?kept13 ?walk13
                case kept13 =>
                  exact ⟨fun v w1 w2 hR ⟨d, e, h1, h2⟩ => ⟨d, e, h1, (hR.grown.block d (Array.getElem?_eq_some_iff.1 h2).1 (fun q => by have := (hown0.out.lt d q.symm).2; omega)).trans h2⟩, fun v w1 w2 hR ⟨ga, cap, e, h1, h2⟩ => ⟨ga, cap, e, hR.new _ _ h1, h2⟩, trivial⟩
                case walk13 =>
                  refine wpFactsR_val (by rfl) (fun w1 hL hd K hK => ?_) ?_
                  · go_simp
                    exact hK _ (RowR.refl _)
                  refine wpFactsR_norm (by simp only [Act.put, List.setIfInBounds_toArray, List.set_cons_zero, List.set_cons_succ]; rfl) (by simp only [List.nil_append]; rfl) ?_
                  refine wpFactsR_val (by rfl) (fun w1 hL hd K hK => ?_) ?_
                  · obtain ⟨d0, d1, d2, d3⟩ := HC.out w1 hL
                    go_simp
                    exact hK _ (RowR.refl _)
                  refine wpFactsR_norm (by simp only [Act.put, List.setIfInBounds_toArray, List.set_cons_zero, List.set_cons_succ]; rfl) (by simp only [List.cons_append, List.nil_append]; rfl) ?_
                  refine wpFactsR_val (by rfl) (fun w1 hL hd K hK => ?_) ?_
                  · go_simp
                    exact hK _ (RowR.refl _)
                  refine wpFactsR_norm (by simp only [Act.put, List.setIfInBounds_toArray, List.set_cons_zero, List.set_cons_succ]; rfl) (by simp only [List.cons_append, List.nil_append]; rfl) ?_
                  refine wpFactsR_val (by rfl) (fun w1 hL hd K hK => ?_) ?_
                  · obtain ⟨d0, d1, d2, d3⟩ := HC.out w1 hL
                    go_simp
                    exact hK _ (RowR.refl _)
                  refine wpFactsR_norm (by simp only [Act.put, List.setIfInBounds_toArray, List.set_cons_zero, List.set_cons_succ]; rfl) (by simp only [List.cons_append, List.nil_append]; rfl) ?_
                  refine wpFactsR_val (by rfl) (fun w1 hL hd K hK => ?_) ?_
                  · go_simp
                    exact hK _ (RowR.refl _)
                  refine wpFactsR_norm (by simp only [Act.put, List.setIfInBounds_toArray, List.set_cons_zero, List.set_cons_succ]; rfl) (by simp only [List.cons_append, List.nil_append]; rfl) ?_
                  refine wpFactsR_val (by rfl) (fun w1 hL hd K hK => ?_) ?_
                  · obtain ⟨d0, d1, d2, d3⟩ := HC.out w1 hL
                    go_simp
                    exact hK _ (RowR.refl _)
                  refine wpFactsR_norm (by simp only [Act.put, List.setIfInBounds_toArray, List.set_cons_zero, List.set_cons_succ]; rfl) (by simp only [List.cons_append, List.nil_append]; rfl) ?_
                  refine wpFactsR_val (by rfl) (fun w1 hL hd K hK => ?_) ?_
                  · go_simp
                    exact hK _ (RowR.refl _)
                  refine wpFactsR_norm (by simp only [Act.put, List.setIfInBounds_toArray, List.set_cons_zero, List.set_cons_succ]; rfl) (by simp only [List.cons_append, List.nil_append]; rfl) ?_
                  refine wpFactsR_val (by rfl) (fun w1 hL hd K hK => ?_) ?_
                  · obtain ⟨d0, d1, d2, d3⟩ := HC.out w1 hL
                    go_simp
                    exact hK _ (RowR.refl _)
                  refine wpFactsR_norm (by simp only [Act.put, List.setIfInBounds_toArray, List.set_cons_zero, List.set_cons_succ]; rfl) (by simp only [List.cons_append, List.nil_append]; rfl) ?_
                  refine wpFactsR_val (by rfl) (fun w1 hL hd K hK => ?_) ?_
                  · go_simp
                    exact hK _ (RowR.refl _)
                  refine wpFactsR_norm (by simp only [Act.put, List.setIfInBounds_toArray, List.set_cons_zero, List.set_cons_succ]; rfl) (by simp only [List.cons_append, List.nil_append]; rfl) ?_
                  refine wpFactsR_val (by rfl) (fun w1 hL hd K hK => ?_) ?_
                  · obtain ⟨d0, d1, d2, d3⟩ := HC.out w1 hL
                    go_simp
                    exact hK _ (RowR.refl _)
                  refine wpFactsR_norm (by simp only [Act.put, List.setIfInBounds_toArray, List.set_cons_zero, List.set_cons_succ]; rfl) (by simp only [List.cons_append, List.nil_append]; rfl) ?_
                  refine wpFactsR_val (by rfl) (fun w1 hL hd K hK => ?_) ?_
                  · go_simp
                    exact hK _ (RowR.refl _)
                  refine wpFactsR_norm (by simp only [Act.put, List.setIfInBounds_toArray, List.set_cons_zero, List.set_cons_succ]; rfl) (by simp only [List.cons_append, List.nil_append]; rfl) ?_
                  refine wpFactsR_val (by rfl) (fun w1 hL hd K hK => ?_) ?_
                  · obtain ⟨d0, d1, d2, d3⟩ := HC.out w1 hL
                    go_simp
                    exact hK _ (RowR.refl _)
                  refine wpFactsR_norm (by simp only [Act.put, List.setIfInBounds_toArray, List.set_cons_zero, List.set_cons_succ]; rfl) (by simp only [List.cons_append, List.nil_append]; rfl) ?_
                  refine wpFactsR_fact (by rfl) (fun w1 hL hd K hK => ?_) (fun v10 => ?_)
                  · go_simp
                    exact hK _ _ (RowR.lat (Below.alloc (Below.refl _ _) (Nat.le_refl _) _)) ⟨_, rfl, hL.of_drew.grown.size, heap_alloc_new _ _⟩
                  refine wpFactsR_norm (by simp only [Act.put, List.setIfInBounds_toArray, List.set_cons_zero, List.set_cons_succ]; rfl) (by simp only [List.cons_append, List.nil_append]; rfl) ?_
                  refine wpFactsR_fact (by rfl) (fun w1 hL hd K hK => ?_) (fun v11 => ?_)
                  · obtain ⟨d, rfl, hd1, hd2⟩ : ∃ d, v10 = .slice (some ⟨d, 0, none⟩) 1 1 ∧ wz.heap.size ≤ d ∧ w1.heap[d]? = some (.cells #[.int .i64 (fa : Int)] 3 (0, 0)) := hd.2.1
                    have hs1 := hL.of_drew.grown.size
                    refine wp_append_row (.tmp 65) (.tmp 68) rfl W3.heap.size (.slice yo (y0).length yc) (y0) rfl (hL.of_drew.old hown0.out) d 1 (fa : Int) rfl (by simp [World.cell?, hd2]) (by omega) (by omega) ?_
                    intro ga cap w' h1 h2 h3
                    exact hK _ _ h2 ⟨ga, cap, rfl, h1, h3.imp id fun h => by omega⟩
                  refine wpFactsR_norm (by simp only [Act.put, List.setIfInBounds_toArray, List.set_cons_zero, List.set_cons_succ]; rfl) (by simp only [List.cons_append, List.nil_append]; rfl) ?_
                  refine wpFactsR_val (by rfl) (fun w1 hL hd K hK => ?_) ?_
                  · go_simp
                    exact hK _ (RowR.refl _)
                  refine wpFactsR_norm (by simp only [Act.put, List.setIfInBounds_toArray, List.set_cons_zero, List.set_cons_succ]; rfl) (by simp only [List.cons_append, List.nil_append]; rfl) ?_
                  intro w1 hL ha
                  obtain ⟨ga, cap, rfl, ho2, hgg⟩ : ∃ ga cap, v11 = .slice (some ⟨ga, 0, none⟩) ((y0).length + 1) cap ∧ OwnInts W3.heap.size w1 (.slice (some ⟨ga, 0, none⟩) ((y0).length + 1) cap) (y0 ++ [(fa : Int)]) ∧ ((Value.slice yo (y0).length yc).ownBlock = some ga ∨ wz.heap.size ≤ ga) := allHold_get 13 ha rfl rfl
                  clear ha
                  have hR := hL.of_drew
                  obtain ⟨eB, eH, eX⟩ := HB1.out w1 hL
                  have hHw : w1.heap[H]? = some (.cells vs.toArray 29 (0, 0)) := eH.trans hLz2.out.lb
                  have f0 : w1.frozen? ⟨H, ft, none⟩ = false := by simp [World.frozen?, hHw]
                  have hHl := (Array.getElem?_eq_some_iff.1 hHw).1
                  have hc2 : w1.cell? ⟨H, ft, none⟩ = some vs[ft] := by simp [World.cell?, hHw, hlv]
                  have hnbH : b ≠ H := fun e => NB.out (by rw [e]; exact List.mem_cons_self ..)
                  have hnXH : X ≠ H := fun e => NX.out (by rw [e]; exact List.mem_cons_self ..)
                  have hA1 : Hid (Amid W3.heap.size (H :: C :: Bs) W3 (w1.setCell ⟨H, ft, none⟩ (.slice (some ⟨ga, 0, none⟩) ((y0).length + 1) cap))) :=
                    (hAz.out.trans (Amid.row hown0.out hR.grown hzr (Nat.le_refl _))).setCell (List.mem_cons_self ..) _ _
                  have hG1 : Hid (GAt S C g.names.length (g.names.length * g.names.length) Bs st (w1.setCell ⟨H, ft, none⟩ (.slice (some ⟨ga, 0, none⟩) ((y0).length + 1) cap))) := by
                    have hnH : H ∉ C :: Bs := hGz.out.apart (hLz2.out.cell ft hlv).1 (by rw [hyv]; simp)
                    have hSH : S ≠ H := fun e => by
                      have h1 := hGz.out.rs.sb
                      rw [e, hLz2.out.lb] at h1
                      exact absurd (Obj.cells.inj (Option.some.inj h1)).2.1 (by decide)
                    have key : ∀ k, k < W3.heap.size → k ≠ H → (w1.setCell ⟨H, ft, none⟩ (.slice (some ⟨ga, 0, none⟩) ((y0).length + 1) cap)).heap[k]? = wz.heap[k]? := fun k hk hne =>
                      (Below.heap_setCell _ _ _ _ hne).trans (hR.grown.block k (by omega) fun e => by have := (hown0.out.lt k e.symm).1; omega)
                    refine hGz.out.keep (key S LTM.out.2.1 hSH) (key C LTM.out.2.2.1 fun e => hnH (by rw [e]; exact List.mem_cons_self ..)) fun q hq => key q (LTM.out.2.2.2 q hq) fun e => hnH (by rw [← e]; exact List.mem_cons_of_mem _ hq)
                  have hL1 : Hid (LAt W3.heap.size H (vs.set ft (.slice (some ⟨ga, 0, none⟩) ((y0).length + 1) cap)) (Fi.push hs (ft : Int) (fa : Int)) (w1.setCell ⟨H, ft, none⟩ (.slice (some ⟨ga, 0, none⟩) ((y0).length + 1) cap))) := by
                    have hg2 := hR.grown
                    rw [← hyv] at hg2 hgg
                    exact hLz2.out.push ft ga hlv (fa : Int) hg2 (by rw [HY0.out]; exact ho2) rfl hgg
                  have SB1 : Hid ((w1.setCell ⟨H, ft, none⟩ (.slice (some ⟨ga, 0, none⟩) ((y0).length + 1) cap)).heap[b]? = some (.cells #[.slice (some ⟨H, 0, none⟩) g.names.length g.names.length, .slice (some ⟨S, 0, none⟩) g.names.length g.names.length, .chan (some C)] 71 (0, 0))) := (Below.heap_setCell _ _ _ _ hnbH).trans (eB.trans SBz.out)
                  have k71 : Hid ((w1.setCell ⟨H, ft, none⟩ (.slice (some ⟨ga, 0, none⟩) ((y0).length + 1) cap)).heap[X]? = some (.cells #[.int .i64 (fa : Int), .int .i64 (ft : Int)] 75 (0, 0))) := (Below.heap_setCell _ _ _ _ hnXH).trans (eX.trans k7z.out)
                  clear ho2 hgg hL hR HC HB1 hHw eB eH eX hown0 hAz hGz hLz2 SBz k7z
                  go_upto_region 14 with fail
                  generalize (w1.setCell ⟨H, ft, none⟩ (.slice (some ⟨ga, 0, none⟩) ((y0).length + 1) cap)) = wt at *
                  clear hc2 f0 hHl
                  obtain ⟨c0, c1, c2, _⟩ := cells_three_z SB1.out
                  obtain ⟨p0, p1, _⟩ := cells_two_z k71.out
                  have hbl := (Array.getElem?_eq_some_iff.1 SB1.out).1
                  have hXl := (Array.getElem?_eq_some_iff.1 k71.out).1
                  have HF : Hid (Calls Try.prog 68 #[.agg (dpC H S C g.names.length), gainV ((fa : Int), (ft : Int))] wt fun e w' => e = .returned (.tuple #[]) ∧ Hid (ButL (C :: Bs) wt w') ∧ Hid (GAt S C g.names.length (g.names.length * g.names.length) Bs (Fi.grow st (fa : Int) (ft : Int)) w')) := dfind_N g.names.length M hM st S C (g.names.length * g.names.length) H Bs fa ft wt hG1.out hlen ⟨by omega, by omega⟩ ⟨by omega, by omega⟩ ST2.out
                  simp only [dpC, gainV] at HF
                  go_wp2_with (go_at_call 68; fail)
                  refine Calls.mono HF.out ?_
                  rintro e w9 ⟨rfl, hb9, hG9⟩
                  have hA9 : Hid (Amid W3.heap.size (H :: C :: Bs) W3 w9) := hA1.out.trans (Amid.more (Amid.butL hb9.out hA1.out.size) fun q hq => List.mem_cons_of_mem _ hq)
                  have hL9 : Hid (LAt W3.heap.size H (vs.set ft (.slice (some ⟨ga, 0, none⟩) ((y0).length + 1) cap)) (Dp.heirs st ((fa : Int), (ft : Int)) hs) w9) := by
                    show LAt _ _ _ _ _
                    rw [HE.out]
                    refine hL1.out.butL hb9.out fun q hq cs fr e => ?_
                    rcases List.mem_cons.1 hq with hq | hq
                    · obtain ⟨sn, rn, hch⟩ := hG1.out.ch
                      rw [hq] at e
                      rcases e with e | e <;> rw [hch] at e <;> cases e
                    · obtain ⟨j, hj, rfl⟩ := List.getElem_of_mem hq
                      have hr := hG1.out.rs.row j hj
                      rcases e with e | e <;> rw [hr] at e
                      · exact absurd (Obj.cells.inj (Option.some.inj e)).2.1 (by decide)
                      · exact absurd (Obj.cells.inj (Option.some.inj e)).2.1 (by decide)
                  clear c0 c1 c2 p0 p1 hbl hXl HF hb9 hA1 hG1 hL1 SB1 k71 HE
                  go_wp2_with fail
                  go_roundw
                  case rel => exact ⟨i + 1, _, _, _, by omega, by go_num, hA9, hG9, hL9, ST1⟩
                  case measure => simp [intOf]; omega
              · simp only [Bool.not_true]
                have HE : Hid (Dp.heirs st ((fa : Int), (ft : Int)) hs = hs) := by show _ = _; unfold Dp.heirs; rw [if_pos hbh]
                obtain ⟨c0, c1, c2, _⟩ := cells_three_z SBz.out
                obtain ⟨p0, p1, _⟩ := cells_two_z k7z.out
                have hbl := (Array.getElem?_eq_some_iff.1 SBz.out).1
                have hXl := (Array.getElem?_eq_some_iff.1 k7z.out).1
                have HF : Hid (Calls Try.prog 68 #[.agg (dpC H S C g.names.length), gainV ((fa : Int), (ft : Int))] wz fun e w' => e = .returned (.tuple #[]) ∧ Hid (ButL (C :: Bs) wz w') ∧ Hid (GAt S C g.names.length (g.names.length * g.names.length) Bs (Fi.grow st (fa : Int) (ft : Int)) w')) := dfind_N g.names.length M hM st S C (g.names.length * g.names.length) H Bs fa ft wz hGz.out hlen ⟨by omega, by omega⟩ ⟨by omega, by omega⟩ ST2.out
                simp only [dpC, gainV] at HF
                go_wp2_with (go_at_call 68; fail)
                refine Calls.mono HF.out ?_
                rintro e w9 ⟨rfl, hb9, hG9⟩
                have hA9 : Hid (Amid W3.heap.size (H :: C :: Bs) W3 w9) := hAz.out.trans (Amid.more (Amid.butL hb9.out hAz.out.size) fun q hq => List.mem_cons_of_mem _ hq)
                have hL9 : Hid (LAt W3.heap.size H vs (Dp.heirs st ((fa : Int), (ft : Int)) hs) w9) := by
                  show LAt _ _ _ _ _
                  rw [HE.out]
                  refine hLz2.out.butL hb9.out fun q hq cs fr e => ?_
                  rcases List.mem_cons.1 hq with hq | hq
                  · obtain ⟨sn, rn, hch⟩ := hGz.out.ch
                    rw [hq] at e
                    rcases e with e | e <;> rw [hch] at e <;> cases e
                  · obtain ⟨j, hj, rfl⟩ := List.getElem_of_mem hq
                    have hr := hGz.out.rs.row j hj
                    rcases e with e | e <;> rw [hr] at e
                    · exact absurd (Obj.cells.inj (Option.some.inj e)).2.1 (by decide)
                    · exact absurd (Obj.cells.inj (Option.some.inj e)).2.1 (by decide)
                clear c0 c1 c2 p0 p1 hbl hXl HF hb9 hAz hGz hLz2 SBz k7z HE
                go_wp2_with fail
                go_roundw
                case rel => exact ⟨i + 1, _, _, _, by omega, by go_num, hA9, hG9, hL9, ST1⟩
                case measure => simp [intOf]; omega
          · obtain rfl : i = l.length := by omega
            have hii : ¬ (l.length : Int) < (l.length : Int) := by omega
            have BWr : Hid (Below w.heap.size w wr) := BW4.out.trans (hA.out.below LOW.out BW4.out.size)
            have SBr : Hid (wr.heap[b]? = some (.cells #[.slice (some ⟨H, 0, none⟩) g.names.length g.names.length, .slice (some ⟨S, 0, none⟩) g.names.length g.names.length, .chan (some C)] 71 (0, 0))) := (hA.out.other _ _ _ _ NB.out SB4.out (by decide)).trans SB4.out
            have RBr : Hid (wr.heap[w.heap.size + 1]? = some (.cells #[.slice none 0 0, .slice none 0 0, .chan none] 71 (0, 0))) := (hA.out.other _ _ _ _ NR.out RB4.out (by decide)).trans RB4.out
            obtain ⟨c0, c1, c2, _⟩ := cells_three_z SBr.out
            obtain ⟨e0, e1, e2, z0, z1, z2⟩ := cells_three_z RBr.out
            have hbl := (Array.getElem?_eq_some_iff.1 SBr.out).1
            have hrl := (Array.getElem?_eq_some_iff.1 RBr.out).1
            have hBl : Hid (ButL [w.heap.size + 1] wr (((wr.setCell ⟨w.heap.size + 1, 0, none⟩ (.slice (some ⟨H, 0, none⟩) g.names.length g.names.length)).setCell ⟨w.heap.size + 1, 1, none⟩ (.slice (some ⟨S, 0, none⟩) g.names.length g.names.length)).setCell ⟨w.heap.size + 1, 2, none⟩ (.chan (some C)))) := (((ButL.refl _ wr).setCell (List.mem_cons_self ..) _ _).setCell (List.mem_cons_self ..) _ _).setCell (List.mem_cons_self ..) _ _
            have k9 := gset (x := .slice (some ⟨H, 0, none⟩) g.names.length g.names.length) (y := .slice (some ⟨S, 0, none⟩) g.names.length g.names.length) (z := .chan (some C)) RBr.out
            have hlk : (l.map (Dp.link g.terms.length g.rules)).length = l.length := by simp
            have hBD := hBg.out
            rw [← hlk] at hBD
            obtain ⟨hI9, hH9⟩ := hBD.done
            have hMe : g.names.length - 1 = M := by omega
            have hsmall := hBg.out.small
            have DS : Hid (∀ W6 : World, ButL [w.heap.size + 1] wr W6 → DpS (l.map (Dp.link g.terms.length g.rules)) g.names.length H S C Bs vs hs st w W6) := fun W6 hW => by
              have hnr := NR.out
              have hlow := LOW.out
              have hW3 : w.heap.size ≤ W3.heap.size := BW4.out.size
              refine ⟨BWr.out.trans (hW.below (fun q hq => by rw [List.mem_singleton] at hq; omega) BWr.out.size), ⟨hlow C (by simp), fun q hq => hlow q (by simp [hq])⟩, (hL.out.butL hW fun q hq cs fr e => ?_).from hW3, hH9, fun a => Nat.le_trans (hsmall a) (by omega), ?_, by rw [hMe]; exact hI9⟩
              · rw [List.mem_singleton] at hq
                rw [hq] at e
                rcases e with e | e <;> rw [RBr.out] at e <;> exact absurd (Obj.cells.inj (Option.some.inj e)).2.1 (by decide)
              · have hne := hG.out.ne
                refine hG.out.keep (hW.block _ hG.out.lt.1 fun q => ?_) (hW.block _ hG.out.lt.2.1 fun q => ?_) fun q hq => hW.block _ (hG.out.lt.2.2 q hq) fun q2 => ?_
                · rw [List.mem_singleton] at q
                  have := hG.out.rs.sb
                  rw [q, RBr.out] at this
                  exact absurd (Obj.cells.inj (Option.some.inj this)).2.1 (by decide)
                · rw [List.mem_singleton] at q
                  exact hnr (by rw [← q]; simp)
                · rw [List.mem_singleton] at q2
                  exact hnr (by rw [← q2]; simp [hq])
            clear hG hL hA hBg hBD hI9 hH9 hsmall
            go_wp2_with fail
            generalize (((wr.setCell ⟨w.heap.size + 1, 0, none⟩ (.slice (some ⟨H, 0, none⟩) g.names.length g.names.length)).setCell ⟨w.heap.size + 1, 1, none⟩ (.slice (some ⟨S, 0, none⟩) g.names.length g.names.length)).setCell ⟨w.heap.size + 1, 2, none⟩ (.chan (some C))) = W6 at *
            obtain ⟨y0, y1, y2, _⟩ := cells_three_z k9
            refine bodyPost_ret (v := .agg (dpC H S C g.names.length)) (by simp [results, Try.results67, go_sem, dpC, y0, y1, y2]) rfl ⟨H, S, C, rfl, Bs, vs, hs, st, DS.out _ hBl.out⟩
end Go.Proofs.Ytdocbgfpnaiijaa
