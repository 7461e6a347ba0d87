/-
  Layer 8 (first): begun: a search that knows but that each terminal begins with itself.
  Layer 8 (first): settled: a search that has followed up all gains.
-/
import Derived.Test.YtdocbgfpnaiijaaFiSearch
import Derived.Test.YtdocbgfpnaiijaaRowsLib
import Derived.Test.YtdocbgfpnaiijaaNlOfs
namespace Go.Proofs.Ytdocbgfpnaiijaa
open Go.RowKit Go.Conc

theorem make_chanG (z : Int) (n : Nat) (e : z = n) (h : n ≤ 100000) (W : World) : (Instr.makeChan 128 (.int .i64 z)).run Try.prog W = .ok (.chan (some W.heap.size)) (W.alloc (.chan n #[] false 0 0 false)) := by
  subst e
  have hinfo : (Try.prog.info? 137).map (fun i => (i.zero, i.size, i.bytes)) = some (some (.agg #[.int .i64 0, .int .i64 0]), 2, 16) := by kernel_rfl
  obtain ⟨iA, hi, hz0, hz1, hz2⟩ := info_parts hinfo
  exact run_makeChan (P := Try.prog) (w := W) Try.underlying128 hi .i64 n (by omega) (by rw [hz2]; omega)

theorem gset4 {w : World} {b : Nat} {p q r s x y z u : Value} {ty : TypeId} (h : w.heap[b]? = some (.cells #[p, q, r, s] ty (0, 0))) : ((((w.setCell ⟨b, 0, none⟩ x).setCell ⟨b, 1, none⟩ y).setCell ⟨b, 2, none⟩ z).setCell ⟨b, 3, none⟩ u).heap[b]? = some (.cells #[x, y, z, u] ty (0, 0)) := by
  simp [World.setCell, Array.getElem?_modify, h]

/-- behind the making of the search -/
structure FMade (g : Gr.Gm) (A : GA) (n : Nat) (no : Option Addr) (nc L S C b : Nat) (w W : World) : Prop where
  below : Below w.heap.size w W
  lt : w.heap.size + 2 ≤ L ∧ w.heap.size + 2 ≤ S ∧ w.heap.size + 2 ≤ C ∧ w.heap.size + 2 ≤ b
  gb : W.heap[w.heap.size]? = some (.cells #[.slice A.ta g.terms.length A.tc, .slice A.na g.names.length A.nc, .slice A.ra g.rules.length A.rc] 25 (0, 0))
  rb : W.heap[w.heap.size + 1]? = some (.cells #[.slice none 0 0, .slice none 0 0, .slice none 0 0, .chan none] 130 (0, 0))
  sb : W.heap[b]? = some (.cells (fCells no nc L S C n) 130 (0, 0))
  nul : BoolsAt W.heap.size W no (Nl.of g)
  lb : W.heap[L]? = some (.cells (Array.replicate n (Value.slice none 0 0)) 29 (0, 0))
  ssb : W.heap[S]? = some (.cells (Array.replicate n (Value.slice none 0 0)) 28 (0, 0))
  ch : W.heap[C]? = some (.chan (n * g.terms.length) #[] false 0 0 false)

/-- amid the left sides' laying -/
structure FPush (W2 wr : World) (L R : Nat) (rc : Array Value) (vs : List Value) (ls : List (List Int)) : Prop where
  but : ButL [L] W2 wr
  la : LAt W2.heap.size L vs ls wr
  rb : wr.heap[R]? = some (.cells rc 31 (0, 0))

/-- headers of rows, some of which are laid -/
def hdrs (Bs : List Nat) (T n : Nat) : List Value := Bs.map (fun b => Value.slice (some ⟨b, 0, none⟩) T T) ++ List.replicate (n - Bs.length) (Value.slice none 0 0)
theorem hdrs_len (Bs : List Nat) (T n : Nat) (h : Bs.length ≤ n) : (hdrs Bs T n).length = n := by simp [hdrs]; omega
theorem hdrs_set (Bs : List Nat) (T n B : Nat) (h : Bs.length < n) : (hdrs Bs T n).set Bs.length (.slice (some ⟨B, 0, none⟩) T T) = hdrs (Bs ++ [B]) T n := by
  unfold hdrs
  have e : n - Bs.length = (n - (Bs ++ [B]).length) + 1 := by simp; omega
  rw [e, List.replicate_succ, List.set_append_right _ _ (by simp)]
  simp
theorem hdrs_full (Bs : List Nat) (T n : Nat) (h : Bs.length = n) : hdrs Bs T n = Bs.map (fun b => Value.slice (some ⟨b, 0, none⟩) T T) := by simp [hdrs, h]
/-- amid the rows' making -/
structure FRows (W3 wr : World) (S T n : Nat) (Bs : List Nat) : Prop where
  but : ButL [S] W3 wr
  sb : wr.heap[S]? = some (.cells (hdrs Bs T n).toArray 28 (0, 0))
  row : ∀ b ∈ Bs, W3.heap.size ≤ b ∧ wr.heap[b]? = some (.cells (Array.replicate T (Value.bool false)) 4 (0, 0))
  nodup : Bs.Nodup
theorem FRows.done {W3 wr : World} {S T n : Nat} {Bs : List Nat} (h : FRows W3 wr S T n Bs) (hl : Bs.length = n) : RowsAt S T Bs (List.replicate n (List.replicate T false)) wr := by
  refine ⟨by rw [h.sb, hdrs_full Bs T n hl], by simp [hl], fun i hi => ?_, fun r hr => by rw [List.eq_of_mem_replicate hr]; simp, h.nodup⟩
  have hin : i < n := by omega
  rw [(h.row _ (List.getElem_mem hi)).2, show (List.replicate n (List.replicate T false)).getD i [] = List.replicate T false from by simp [hin]]
  simp
theorem FRows.push {W3 wr w1 : World} {S T n B : Nat} {Bs : List Nat} (h : FRows W3 wr S T n Bs) (hn : Bs.length < n) (hL : Below wr.heap.size wr w1) (hB : wr.heap.size ≤ B) (hk : w1.heap[B]? = some (.cells (Array.replicate T (Value.bool false)) 4 (0, 0))) (hS : S < W3.heap.size) :
    FRows W3 (w1.setCell ⟨S, Bs.length, none⟩ (.slice (some ⟨B, 0, none⟩) T T)) S T n (Bs ++ [B]) := by
  have hSl := (Array.getElem?_eq_some_iff.1 h.sb).1
  have hs := h.but.size
  refine ⟨(h.but.trans (ButL.of hL)).setCell (List.mem_cons_self ..) _ _, ?_, fun b hb => ?_, ?_⟩
  · have h1 : w1.heap[S]? = some (.cells (hdrs Bs T n).toArray 28 (0, 0)) := (hL.block _ hSl).trans h.sb
    rw [← hdrs_set Bs T n B hn]
    simp [World.setCell, Array.getElem?_modify, h1]
  · rcases List.mem_append.1 hb with hb | hb
    · have hq := h.row b hb
      have hbl := (Array.getElem?_eq_some_iff.1 hq.2).1
      exact ⟨hq.1, (Below.heap_setCell _ _ _ _ (by show b ≠ S; omega)).trans ((hL.block _ hbl).trans hq.2)⟩
    · rw [List.mem_singleton] at hb
      subst hb
      exact ⟨by omega, (Below.heap_setCell _ _ _ _ (by show b ≠ S; omega)).trans hk⟩
  · rw [List.nodup_append]
    refine ⟨h.nodup, by simp, fun a ha b hb => ?_⟩
    rw [List.mem_singleton] at hb
    have := (Array.getElem?_eq_some_iff.1 (h.row a ha).2).1
    omega

/-- a search that has been begun -/
structure FS (g : Gr.Gm) (n : Nat) (no : Option Addr) (L S C : Nat) (Bs : List Nat) (vs : List Value) (st : Fi.St) (w w' : World) : Prop where
  below : Below w.heap.size w w'
  lt : w.heap.size ≤ C ∧ ∀ b ∈ Bs, w.heap.size ≤ b
  nul : ∃ M, BoolsAt M w' no (Nl.of g) ∧ ∀ b ∈ Bs, M ≤ b
  lef : LAt w.heap.size L vs (Fi.lefts g.rules (Nl.of g) n) w'
  at' : GAt S C g.terms.length (n * g.terms.length) Bs st w'
  inv : Fi.Inv g.terms.length n g.rules (Nl.of g) (fun _ _ _ => False) st
  own : Fi.Own g.terms.length st.ss

set_option maxRecDepth 100000 in
set_option maxHeartbeats 3200000 in
theorem fbegun_any (g : Gr.Gm) (A : GA) (n : Nat) (w : World) (hn : g.terms.length + g.names.length = n) (hg : Gr.good g = true) (hm : ∀ x ∈ g.rules, x.2.length ≤ maxLen) (h : GmAt w.heap.size w g A) :
    Calls Try.prog 111 #[.agg (gmCells g A)] w fun e w' => ∃ no nnc L S C, e = .returned (.agg (fCells no nnc L S C n)) ∧ ∃ Bs vs st, Hid (FS g n no L S C Bs vs st w w') := by
  obtain ⟨ta, tc, na, nc, ra, rac⟩ := A
  have HG : Hid (GmAt w.heap.size w g ⟨ta, tc, na, nc, ra, rac⟩) := h
  have HM : Hid _ := hm
  obtain ⟨hsz, h8⟩ := Nl.sizes_of hg
  have HF : Hid _ := Nl.fit_of hg
  have H8 : Hid _ := h8
  have hnI : (g.terms.length : Int) + (g.names.length : Int) = (n : Int) := by omega
  have hlen : (Nl.of g).length = n := by rw [Nl.of_len hg, hn]
  have HNI : Hid _ := hnI
  have HLN : Hid _ := hlen
  have hnT : n * g.terms.length ≤ 80 * 40 := Nat.mul_le_mul (by omega) (by omega)
  have hml := make_rowsI (n : Int) n rfl (by omega)
  have hmb := make_rowsB (n : Int) n rfl (by omega)
  have hmc := make_chanG ((n : Int) * (g.terms.length : Int)) (n * g.terms.length) (by simp) (by omega)
  have hwm : IntKind.wrap .i64 ((n : Int) * (g.terms.length : Int)) = (n : Int) * (g.terms.length : Int) := by
    have e : (n : Int) * (g.terms.length : Int) = ((n * g.terms.length : Nat) : Int) := by simp
    rw [e, IntKind.wrap_i64]; omega
  have HOF : Hid (∀ W : World, Below w.heap.size w W → Calls Try.prog 38 #[.agg (gmCells g ⟨ta, tc, na, nc, ra, rac⟩)] W fun e w' => ∃ ao c, e = .returned (.slice ao (Nl.of g).length c) ∧ Hid (BoolsAt w'.heap.size w' ao (Nl.of g)) ∧ Hid (Below W.heap.size W w')) := fun W hW => nof_is g _ W HM.out (HG.out.next hW)
  clear h hm h8
  simp only [gmCells] at HOF ⊢
  rw [hlen] at HOF
  have hB : Hid (Below w.heap.size w ((w.alloc (Obj.cells #[.slice ta g.terms.length tc, .slice na g.names.length nc, .slice ra g.rules.length rac] 25)).alloc (Obj.cells #[.slice none 0 0, .slice none 0 0, .slice none 0 0, .chan none] 130))) := ((Below.refl _ w).alloc (Nat.le_refl _) _).alloc (by simp) _
  have b0 : Hid (((w.alloc (Obj.cells #[.slice ta g.terms.length tc, .slice na g.names.length nc, .slice ra g.rules.length rac] 25)).alloc (Obj.cells #[.slice none 0 0, .slice none 0 0, .slice none 0 0, .chan none] 130)).heap[w.heap.size]? = some (.cells #[.slice ta g.terms.length tc, .slice na g.names.length nc, .slice ra g.rules.length rac] 25 (0, 0))) := by
    show _ = _; rw [Below.heap_alloc _ _ _ (by simp)]; exact heap_alloc_new w _
  have b1 : Hid (((w.alloc (Obj.cells #[.slice ta g.terms.length tc, .slice na g.names.length nc, .slice ra g.rules.length rac] 25)).alloc (Obj.cells #[.slice none 0 0, .slice none 0 0, .slice none 0 0, .chan none] 130)).heap[w.heap.size + 1]? = some (.cells #[.slice none 0 0, .slice none 0 0, .slice none 0 0, .chan none] 130 (0, 0))) := by
    show _ = _
    have := heap_alloc_new (w.alloc (Obj.cells #[.slice ta g.terms.length tc, .slice na g.names.length nc, .slice ra g.rules.length rac] 25)) (Obj.cells #[.slice none 0 0, .slice none 0 0, .slice none 0 0, .chan none] 130)
    simpa using this
  have hWs : Hid (((w.alloc (Obj.cells #[.slice ta g.terms.length tc, .slice na g.names.length nc, .slice ra g.rules.length rac] 25)).alloc (Obj.cells #[.slice none 0 0, .slice none 0 0, .slice none 0 0, .chan none] 130)).heap.size = w.heap.size + 2) := by show _ = _; simp
  go_enter Try.func111, Try.ntmps111
  go_upto_region 2 with fail
  generalize ((w.alloc (Obj.cells #[.slice ta g.terms.length tc, .slice na g.names.length nc, .slice ra g.rules.length rac] 25)).alloc (Obj.cells #[.slice none 0 0, .slice none 0 0, .slice none 0 0, .chan none] 130)) = W at *
  have HS : Hid (∀ w1 : World, Lat W.drew w1 → Below w.heap.size w w1 ∧ w.heap.size + 2 ≤ w1.heap.size ∧ Below W.heap.size W w1) := fun w1 hL => by
    have h := hL.of_drew
    exact ⟨hB.out.trans (Below.mono h hB.out.size), by have := h.size; rw [hWs.out] at this; exact this, h⟩
  have HC : Hid (∀ w1 : World, Lat W.drew w1 → w1.cell? ⟨w.heap.size, 0, none⟩ = some (.slice ta g.terms.length tc) ∧ w1.cell? ⟨w.heap.size, 1, none⟩ = some (.slice na g.names.length nc) ∧ w1.cell? ⟨w.heap.size, 2, none⟩ = some (.slice ra g.rules.length rac)) := fun w1 hL => by
    have h := cells_three_z (((HS.out w1 hL).2.2.block _ (by rw [hWs.out]; omega)).trans b0.out)
    exact ⟨h.1, h.2.1, h.2.2.1⟩
  refine wp_region_lat [.val (.agg #[.slice ta g.terms.length tc, .slice na g.names.length nc, .slice ra g.rules.length rac]),
    .fact (fun v w' => ∃ no nnc, v = .slice no n nnc ∧ BoolsAt w'.heap.size w' no (Nl.of g)),
    .val (.int .i64 (n : Int)),
    .fact (fun v w' => ∃ L, v = .slice (some ⟨L, 0, none⟩) n n ∧ w.heap.size + 2 ≤ L ∧ w'.heap[L]? = some (.cells (Array.replicate n (Value.slice none 0 0)) 29 (0, 0))),
    .val (.int .i64 (n : Int)),
    .fact (fun v w' => ∃ S, v = .slice (some ⟨S, 0, none⟩) n n ∧ w.heap.size + 2 ≤ S ∧ w'.heap[S]? = some (.cells (Array.replicate n (Value.slice none 0 0)) 28 (0, 0))),
    .val (.int .i64 (n : Int)), .val (.pointer (some ⟨w.heap.size, 0, none⟩)), .val (.slice ta g.terms.length tc), .val (.int .i64 g.terms.length), .val (.int .i64 ((n : Int) * (g.terms.length : Int))),
    .fact (fun v w' => ∃ C, v = .chan (some C) ∧ w.heap.size + 2 ≤ C ∧ w'.heap[C]? = some (.chan (n * g.terms.length) #[] false 0 0 false)),
    .fact (fun v w' => ∃ no nnc L S C, v = .agg (fCells no nnc L S C n) ∧ (w.heap.size + 2 ≤ L ∧ w.heap.size + 2 ≤ S ∧ w.heap.size + 2 ≤ C) ∧ BoolsAt w'.heap.size w' no (Nl.of g) ∧ w'.heap[L]? = some (.cells (Array.replicate n (Value.slice none 0 0)) 29 (0, 0)) ∧ w'.heap[S]? = some (.cells (Array.replicate n (Value.slice none 0 0)) 28 (0, 0)) ∧ w'.heap[C]? = some (.chan (n * g.terms.length) #[] false 0 0 false)),
    .fact (fun v w' => ∃ b, v = .pointer (some ⟨b, 0, none⟩) ∧ w.heap.size + 2 ≤ b ∧ w'.heap[b]? = some (.cells #[.slice none 0 0, .slice none 0 0, .slice none 0 0, .chan none] 130 (0, 0)))] [_] (by kernel_rfl) (by kernel_rfl) rfl ?kept ?walk
  case kept =>
    have kp : ∀ {b : Nat} {o : Obj} {w1 w2 : World}, Lat w1 w2 → w1.heap[b]? = some o → w2.heap[b]? = some o := fun hL h => by rw [hL.block _ (Array.getElem?_eq_some_iff.1 h).1]; exact h
    exact ⟨fun v w1 w2 hL ⟨no, c, e, h1⟩ => ⟨no, c, e, h1.next hL⟩, fun v w1 w2 hL ⟨I, e, h1, h2⟩ => ⟨I, e, h1, kp hL h2⟩, fun v w1 w2 hL ⟨I, e, h1, h2⟩ => ⟨I, e, h1, kp hL h2⟩, fun v w1 w2 hL ⟨C, e, h1, h2⟩ => ⟨C, e, h1, kp hL h2⟩, fun v w1 w2 hL ⟨no, nnc, L, S, C, e, h1, h2, h3, h4, h5⟩ => ⟨no, nnc, L, S, C, e, h1, h2.next hL, kp hL h3, kp hL h4, kp hL h5⟩, fun v w1 w2 hL ⟨b, e, h1, h2⟩ => ⟨b, e, h1, kp hL h2⟩, trivial⟩
  case walk =>
    refine wpFacts_val (by rfl) (fun w1 hL hd K hK => ?_) ?_
    · obtain ⟨c0, c1, c2⟩ := HC.out w1 hL
      go_simp
      exact hK _ (Lat.refl _)
    refine wpFacts_norm (by simp only [Act.put, List.setIfInBounds_toArray, List.set_cons_zero, List.set_cons_succ]; rfl) (by simp only [List.nil_append]; rfl) ?_
    refine wpFacts_fact (by rfl) (fun w1 hL hd K hK => ?_) (fun v1 => ?_)
    · go_simp
      refine Calls.mono (HOF.out w1 (HS.out w1 hL).1) ?_
      rintro e w9 ⟨bo, bc, rfl, hb8, hb9⟩
      exact hK _ _ hb9.out ⟨bo, bc, rfl, hb8.out⟩
    refine wpFacts_norm (by simp only [Act.put, List.setIfInBounds_toArray, List.set_cons_zero, List.set_cons_succ]; rfl) (by simp only [List.cons_append, List.nil_append]; rfl) ?_
    refine wpFacts_val (by rfl) (fun w1 hL hd K hK => ?_) ?_
    · go_simp
      exact hK _ (Lat.refl _)
    refine wpFacts_norm (by simp only [Act.put, List.setIfInBounds_toArray, List.set_cons_zero, List.set_cons_succ]; rfl) (by simp only [List.cons_append, List.nil_append]; rfl) ?_
    refine wpFacts_fact (by rfl) (fun w1 hL hd K hK => ?_) (fun v3 => ?_)
    · go_simp
      exact hK _ _ (Below.alloc (Below.refl _ _) (Nat.le_refl _) _) ⟨_, rfl, (HS.out w1 hL).2.1, heap_alloc_new _ _⟩
    refine wpFacts_norm (by simp only [Act.put, List.setIfInBounds_toArray, List.set_cons_zero, List.set_cons_succ]; rfl) (by simp only [List.cons_append, List.nil_append]; rfl) ?_
    refine wpFacts_val (by rfl) (fun w1 hL hd K hK => ?_) ?_
    · go_simp
      exact hK _ (Lat.refl _)
    refine wpFacts_norm (by simp only [Act.put, List.setIfInBounds_toArray, List.set_cons_zero, List.set_cons_succ]; rfl) (by simp only [List.cons_append, List.nil_append]; rfl) ?_
    refine wpFacts_fact (by rfl) (fun w1 hL hd K hK => ?_) (fun v5 => ?_)
    · go_simp
      exact hK _ _ (Below.alloc (Below.refl _ _) (Nat.le_refl _) _) ⟨_, rfl, (HS.out w1 hL).2.1, heap_alloc_new _ _⟩
    refine wpFacts_norm (by simp only [Act.put, List.setIfInBounds_toArray, List.set_cons_zero, List.set_cons_succ]; rfl) (by simp only [List.cons_append, List.nil_append]; rfl) ?_
    refine wpFacts_val (by rfl) (fun w1 hL hd K hK => ?_) ?_
    · go_simp
      exact hK _ (Lat.refl _)
    refine wpFacts_norm (by simp only [Act.put, List.setIfInBounds_toArray, List.set_cons_zero, List.set_cons_succ]; rfl) (by simp only [List.cons_append, List.nil_append]; rfl) ?_
    refine wpFacts_val (by rfl) (fun w1 hL hd K hK => ?_) ?_
    · go_simp
      exact hK _ (Lat.refl _)
    refine wpFacts_norm (by simp only [Act.put, List.setIfInBounds_toArray, List.set_cons_zero, List.set_cons_succ]; rfl) (by simp only [List.cons_append, List.nil_append]; rfl) ?_
    refine wpFacts_val (by rfl) (fun w1 hL hd K hK => ?_) ?_
    · obtain ⟨c0, c1, c2⟩ := HC.out w1 hL
      go_simp
      exact hK _ (Lat.refl _)
    refine wpFacts_norm (by simp only [Act.put, List.setIfInBounds_toArray, List.set_cons_zero, List.set_cons_succ]; rfl) (by simp only [List.cons_append, List.nil_append]; rfl) ?_
    refine wpFacts_val (by rfl) (fun w1 hL hd K hK => ?_) ?_
    · go_simp
      exact hK _ (Lat.refl _)
    refine wpFacts_norm (by simp only [Act.put, List.setIfInBounds_toArray, List.set_cons_zero, List.set_cons_succ]; rfl) (by simp only [List.cons_append, List.nil_append]; rfl) ?_
    refine wpFacts_val (by rfl) (fun w1 hL hd K hK => ?_) ?_
    · go_simp
      exact hK _ (Lat.refl _)
    refine wpFacts_norm (by simp only [Act.put, List.setIfInBounds_toArray, List.set_cons_zero, List.set_cons_succ]; rfl) (by simp only [List.cons_append, List.nil_append]; rfl) ?_
    refine wpFacts_fact (by rfl) (fun w1 hL hd K hK => ?_) (fun v11 => ?_)
    · go_simp
      exact hK _ _ (Below.alloc (Below.refl _ _) (Nat.le_refl _) _) ⟨_, rfl, (HS.out w1 hL).2.1, heap_alloc_new _ _⟩
    refine wpFacts_norm (by simp only [Act.put, List.setIfInBounds_toArray, List.set_cons_zero, List.set_cons_succ]; rfl) (by simp only [List.cons_append, List.nil_append]; rfl) ?_
    refine wpFacts_fact (by rfl) (fun w1 hL hd K hK => ?_) (fun v12 => ?_)
    · obtain ⟨no, nnc, rfl, i1⟩ : ∃ no nnc, v1 = .slice no n nnc ∧ BoolsAt w1.heap.size w1 no (Nl.of g) := hd.1
      obtain ⟨L, rfl, i2, i3⟩ : ∃ L, v3 = .slice (some ⟨L, 0, none⟩) n n ∧ w.heap.size + 2 ≤ L ∧ w1.heap[L]? = some (.cells (Array.replicate n (Value.slice none 0 0)) 29 (0, 0)) := hd.2.1
      obtain ⟨S, rfl, i4, i5⟩ : ∃ S, v5 = .slice (some ⟨S, 0, none⟩) n n ∧ w.heap.size + 2 ≤ S ∧ w1.heap[S]? = some (.cells (Array.replicate n (Value.slice none 0 0)) 28 (0, 0)) := hd.2.2.1
      obtain ⟨C, rfl, i6, i7⟩ : ∃ C, v11 = .chan (some C) ∧ w.heap.size + 2 ≤ C ∧ w1.heap[C]? = some (.chan (n * g.terms.length) #[] false 0 0 false) := hd.2.2.2.1
      have IJ : Hid (BoolsAt w1.heap.size w1 no (Nl.of g) ∧ w1.heap[L]? = some (.cells (Array.replicate n (Value.slice none 0 0)) 29 (0, 0)) ∧ w1.heap[S]? = some (.cells (Array.replicate n (Value.slice none 0 0)) 28 (0, 0)) ∧ w1.heap[C]? = some (.chan (n * g.terms.length) #[] false 0 0 false)) := ⟨i1, i3, i5, i7⟩
      clear i1 i3 i5 i7
      go_simp
      exact hK _ _ (Lat.refl _) ⟨no, nnc, L, S, C, rfl, ⟨i2, i4, i6⟩, IJ.out⟩
    refine wpFacts_norm (by simp only [Act.put, List.setIfInBounds_toArray, List.set_cons_zero, List.set_cons_succ]; rfl) (by simp only [List.cons_append, List.nil_append]; rfl) ?_
    refine wpFacts_fact (by rfl) (fun w1 hL hd K hK => ?_) (fun v13 => ?_)
    · go_simp
      exact hK _ _ (Below.alloc (Below.refl _ _) (Nat.le_refl _) _) ⟨_, rfl, (HS.out w1 hL).2.1, heap_alloc_new _ _⟩
    refine wpFacts_norm (by simp only [Act.put, List.setIfInBounds_toArray, List.set_cons_zero, List.set_cons_succ]; rfl) (by simp only [List.cons_append, List.nil_append]; rfl) ?_
    intro w1 hL ha
    obtain ⟨no, nnc, L, S, C, rfl, hlt, i1, i3, i5, i7⟩ : ∃ no nnc L S C, v12 = .agg (fCells no nnc L S C n) ∧ (w.heap.size + 2 ≤ L ∧ w.heap.size + 2 ≤ S ∧ w.heap.size + 2 ≤ C) ∧ BoolsAt w1.heap.size w1 no (Nl.of g) ∧ w1.heap[L]? = some (.cells (Array.replicate n (Value.slice none 0 0)) 29 (0, 0)) ∧ w1.heap[S]? = some (.cells (Array.replicate n (Value.slice none 0 0)) 28 (0, 0)) ∧ w1.heap[C]? = some (.chan (n * g.terms.length) #[] false 0 0 false) := allHold_get 12 ha rfl rfl
    obtain ⟨b, rfl, hbM, hbk⟩ : ∃ b, v13 = .pointer (some ⟨b, 0, none⟩) ∧ w.heap.size + 2 ≤ b ∧ w1.heap[b]? = some (.cells #[.slice none 0 0, .slice none 0 0, .slice none 0 0, .chan none] 130 (0, 0)) := allHold_get 13 ha rfl rfl
    clear ha
    have HI : Hid (FMade g ⟨ta, tc, na, nc, ra, rac⟩ n no nnc L S C b w ((((w1.setCell ⟨b, 0, none⟩ (.slice no n nnc)).setCell ⟨b, 1, none⟩ (.slice (some ⟨L, 0, none⟩) n n)).setCell ⟨b, 2, none⟩ (.slice (some ⟨S, 0, none⟩) n n)).setCell ⟨b, 3, none⟩ (.chan (some C)))) := by
      have hs : ∀ k, k ≠ b → ((((w1.setCell ⟨b, 0, none⟩ (.slice no n nnc)).setCell ⟨b, 1, none⟩ (.slice (some ⟨L, 0, none⟩) n n)).setCell ⟨b, 2, none⟩ (.slice (some ⟨S, 0, none⟩) n n)).setCell ⟨b, 3, none⟩ (.chan (some C))).heap[k]? = w1.heap[k]? := fun k hk => by
        rw [Below.heap_setCell _ _ _ _ hk, Below.heap_setCell _ _ _ _ hk, Below.heap_setCell _ _ _ _ hk, Below.heap_setCell _ _ _ _ hk]
      have nL : L ≠ b := fun e => by
        subst e; rw [i3] at hbk
        exact absurd (Obj.cells.inj (Option.some.inj hbk)).2.1 (by decide)
      have nS : S ≠ b := fun e => by
        subst e; rw [i5] at hbk
        exact absurd (Obj.cells.inj (Option.some.inj hbk)).2.1 (by decide)
      have nC : C ≠ b := fun e => by
        subst e; rw [i7] at hbk; cases hbk
      have hh := HS.out w1 hL
      refine ⟨?_, ⟨hlt.1, hlt.2.1, hlt.2.2, hbM⟩, ?_, ?_, gset4 hbk, ?_, (hs _ nL).trans i3, (hs _ nS).trans i5, (hs _ nC).trans i7⟩
      · exact (((hh.1.setCell (by show w.heap.size ≤ b; omega) _).setCell (by show w.heap.size ≤ b; omega) _).setCell (by show w.heap.size ≤ b; omega) _).setCell (by show w.heap.size ≤ b; omega) _
      · rw [hs _ (by omega), hh.2.2.block _ (by rw [hWs.out]; omega)]; exact b0.out
      · rw [hs _ (by omega), hh.2.2.block _ (by rw [hWs.out]; omega)]; exact b1.out
      · refine BoolsAt.size (BoolsAt.keep i1 (by simp only [size_setCell]; exact Nat.le_refl _) fun k o y _ hc => hs k fun e => ?_)
        subst e
        have := cell_in hbk hc
        simp at this
    obtain ⟨⟨c0, c1, c2, c3⟩, z0, z1, z2, z3⟩ := cells_four_z hbk
    have hbl := (Array.getElem?_eq_some_iff.1 hbk).1
    clear i1 i3 i5 i7 hbk hL HS HC b0 b1 hWs hB hml hmb hmc hwm
    simp only [fCells]
    go_upto_region 3 with fail
    generalize ((((w1.setCell ⟨b, 0, none⟩ (.slice no n nnc)).setCell ⟨b, 1, none⟩ (.slice (some ⟨L, 0, none⟩) n n)).setCell ⟨b, 2, none⟩ (.slice (some ⟨S, 0, none⟩) n n)).setCell ⟨b, 3, none⟩ (.chan (some C))) = W2 at *
    clear c0 c1 c2 c3 z0 z1 z2 z3 hbl
    obtain ⟨g0, g1, g2, _⟩ := cells_three_z HI.out.gb
    simp only at g0 g1 g2
    have HNB : Hid (∀ k : Nat, W2.heap[k]? = some (.cells (Array.replicate n (Value.slice none 0 0)) 29 (0, 0)) → ∀ o y, W2.cell? ⟨k, o, none⟩ = some (.bool y) → False) := fun k hk o y hc => by
      have := cell_in hk hc
      simp at this
    have P0 : Hid (LAt W2.heap.size L (List.replicate n (.slice none 0 0)) ((g.rules.take 0).foldl (Fi.pushRule (Nl.of g)) (List.replicate n [])) W2) := LAt.start HI.out.lb
    have HHD : Hid (∀ (l : List Int) (ro : Option Addr) (rc : Nat) (W : World), ButL [L] W2 W → IntsAt W.heap.size W ro l → (∀ s ∈ l, 0 ≤ s ∧ s < n) → l.length ≤ rc → l.length ≤ 4000 → Calls Try.prog 118 #[.agg (fCells no nnc L S C n), .slice ro l.length rc] W fun e w' => e = .returned (.slice ro (Fi.hn (Nl.of g) l) rc) ∧ Below W.heap.size W w') := fun l ro rc W hW hl hin hc h4 => by
      refine heads_any (Nl.of g) l n L S C no ro nnc rc W (BoolsAt.size (BoolsAt.keep HI.out.nul hW.size fun k o y hk hc => hW.block k hk fun q => ?_)) hl HLN.out hin hc h4
      rw [List.mem_singleton] at q
      subst q
      exact HNB.out k HI.out.lb o y hc
    simp only [fCells] at HHD
    have hbL : b ≠ L := fun e => by
      have h1 := HI.out.sb
      have h2 := HI.out.lb
      rw [e, h2] at h1
      exact absurd (Obj.cells.inj (Option.some.inj h1)).2.1 (by decide)
    have HBL : Hid _ := hbL
    have hbl2 := (Array.getElem?_eq_some_iff.1 HI.out.sb).1
    clear hbL
    go_wp2_with fail
    go_loopw [34] (fun i wr => ∃ (k : Nat) (vs : List Value), k ≤ g.rules.length ∧ i = .int .i64 k ∧ vs.length = n ∧ Hid (ButL [L] W2 wr) ∧ Hid (LAt W2.heap.size L vs ((g.rules.take k).foldl (Fi.pushRule (Nl.of g)) (List.replicate n [])) wr)) (fun i _ => g.rules.length - (intOf i).toNat)
    case atStart => exact ⟨0, _, Nat.zero_le _, rfl, by simp, ButL.refl _ _, P0⟩
    case round =>
      obtain ⟨k, vs, hk, rfl, hvs, hbt, hla⟩ := hrel
      clear P0 g0 g1 g2
      by_cases hkl : k < g.rules.length
      · have hBw : Hid (Below w.heap.size w wr) := HI.out.below.trans (hbt.out.below (fun q hq => by rw [List.mem_singleton] at hq; have := HI.out.lt.1; omega) HI.out.below.size)
        obtain ⟨rb, ro, xo, xc, rfl, _, _, k0, k1, ki, hxc, _⟩ := HG.out.rules k hkl
        replace k0 := cell_later hBw.out k0
        replace k1 := cell_later hBw.out k1
        have hmm : g.rules[k] ∈ g.rules := List.getElem_mem hkl
        have h8 := H8.out _ hmm
        have hin := HF.out.right _ hmm
        have ST : Hid _ := Fi.fold_step (Nl.of g) g.rules (List.replicate n []) k hkl
        have SM : Hid (∀ s : Nat, (((g.rules.take k).foldl (Fi.pushRule (Nl.of g)) (List.replicate n [])).getD s []).length ≤ 480) := fun s => by
          have h1 := Fi.fold_small (nl := Nl.of g) s (rs := g.rules.take k) (ls := List.replicate n []) (fun r hr => H8.out r (List.mem_of_mem_take hr))
          have h2 : ((List.replicate n ([] : List Int)).getD s []).length = 0 := by
            rw [List.getD_eq_getElem?_getD, List.getElem?_replicate]; split <;> rfl
          rw [h2, List.length_take] at h1
          omega
        have KI : Hid (IntsAt w.heap.size w xo g.rules[k].2) := ki
        generalize (g.rules.take k).foldl (Fi.pushRule (Nl.of g)) (List.replicate n []) = ls0 at *
        clear ki hmm
        generalize g.rules[k] = y at *
        obtain ⟨l, rs⟩ := y
        simp only at k0 k1 h8 hin hxc
        rw [hn] at hin
        have hbn : Hid (Below wr.heap.size wr (wr.alloc (Obj.cells #[.int .i64 l, .slice xo rs.length xc] 31))) := (Below.refl _ wr).alloc (Nat.le_refl _) _
        have kn : Hid ((wr.alloc (Obj.cells #[.int .i64 l, .slice xo rs.length xc] 31)).heap[wr.heap.size]? = some (.cells #[.int .i64 l, .slice xo rs.length xc] 31 (0, 0))) := heap_alloc_new wr _
        have hbt2 : Hid (ButL [L] W2 (wr.alloc (Obj.cells #[.int .i64 l, .slice xo rs.length xc] 31))) := hbt.out.trans (ButL.of hbn.out)
        have hla2 : Hid _ := hla.out.later hbn.out
        have KW : Hid (IntsAt (wr.alloc (Obj.cells #[.int .i64 l, .slice xo rs.length xc] 31)).heap.size (wr.alloc (Obj.cells #[.int .i64 l, .slice xo rs.length xc] 31)) xo rs) := (KI.out.later (hBw.out.trans (hbn.out.mono hBw.out.size))).size
        have HH1 : Hid _ := HHD.out rs xo xc _ hbt2.out KW.out hin hxc (by omega)
        have sb1 : Hid ((wr.alloc (Obj.cells #[.int .i64 l, .slice xo rs.length xc] 31)).heap[b]? = some (.cells (fCells no nnc L S C n) 130 (0, 0))) := (hbt2.out.block b hbl2 (by simpa using HBL.out)).trans HI.out.sb
        simp only [fCells] at sb1
        obtain ⟨⟨c0, c1, c2, c3⟩, _⟩ := cells_four_z sb1.out
        have hb1l := (Array.getElem?_eq_some_iff.1 sb1.out).1
        have hwrl : wr.heap.size < (wr.alloc (Obj.cells #[.int .i64 l, .slice xo rs.length xc] 31)).heap.size := by simp
        clear hbt hla hbn
        go_wp2_with (go_at_call 118; fail)
        generalize (wr.alloc (Obj.cells #[.int .i64 l, .slice xo rs.length xc] 31)) = W4 at *
        refine Calls.mono HH1.out ?_
        rintro e w3 ⟨rfl, hb3⟩
        have HHL : Hid ((Fi.heads (Nl.of g) rs).length = Fi.hn (Nl.of g) rs) := Fi.heads_len _ _
        have HIN : Hid (∀ x ∈ Fi.heads (Nl.of g) rs, 0 ≤ x ∧ x < n) := fun x hx => hin x (Fi.heads_mem hx)
        have KH : Hid (IntsAt w.heap.size w xo (Fi.heads (Nl.of g) rs)) := by
          show IntsAt _ _ _ _
          rw [Fi.heads_take]
          unfold IntsAt
          rw [List.map_take]
          exact CellsAt.take KI.out _
        have h8h : Fi.hn (Nl.of g) rs ≤ 8 := Nat.le_trans (Fi.hn_le _ _) h8
        have P1 : Hid (FPush W2 w3 L wr.heap.size #[.int .i64 l, .slice xo rs.length xc] vs (Fi.pushAll ls0 l ((Fi.heads (Nl.of g) rs).take 0))) :=
          ⟨hbt2.out.trans (ButL.of hb3), hla2.out.later hb3, (hb3.block _ (Array.getElem?_eq_some_iff.1 kn.out).1).trans kn.out⟩
        have ST2 : Hid (Fi.pushRule (Nl.of g) ls0 (l, rs) = Fi.pushAll ls0 l (Fi.heads (Nl.of g) rs)) := rfl
        have ST3 : Hid ((g.rules.take (k + 1)).foldl (Fi.pushRule (Nl.of g)) (List.replicate n []) = Fi.pushAll ls0 l (Fi.heads (Nl.of g) rs)) := ST.out.trans ST2.out
        clear hbt2 hla2 kn hb3 HH1 sb1 c0 c1 c2 c3 KW KI hin k0 k1 hb1l hwrl ST ST2
        generalize wr.heap.size = R at *
        generalize Fi.hn (Nl.of g) rs = H at *
        generalize Fi.heads (Nl.of g) rs = hs at *
        go_wp2_with fail
        go_loopw [43] (fun i wq => ∃ (q : Nat) (vq : List Value), q ≤ H ∧ i = .int .i64 q ∧ vq.length = n ∧ Hid (FPush W2 wq L R #[.int .i64 l, .slice xo rs.length xc] vq (Fi.pushAll ls0 l (hs.take q)))) (fun i _ => H - (intOf i).toNat)
        case atStart => exact ⟨0, vs, Nat.zero_le _, rfl, hvs, P1⟩
        case round =>
          obtain ⟨q, vq, hq, rfl, hvq, hP⟩ := hrel
          clear P1
          by_cases hql : q < H
          · have hBq : Hid (Below w.heap.size w wr) := HI.out.below.trans (hP.out.but.below (fun q hq => by rw [List.mem_singleton] at hq; have := HI.out.lt.1; omega) HI.out.below.size)
            have hqs : q < hs.length := by rw [HHL.out]; exact hql
            obtain ⟨xb, xof, rfl, _, _, x0⟩ := IntsAt.get (KH.out.later hBq.out) q hqs
            have hx := HIN.out _ (List.getElem_mem hqs)
            have ST2 : Hid _ := Fi.pushAll_step l hs ls0 q hqs
            have SM2 : Hid (∀ s : Nat, ((Fi.pushAll ls0 l (hs.take q)).getD s []).length ≤ 488) := fun s => by
              have h1 := Fi.pushAll_small l s (hs.take q) ls0
              have h2 := SM.out s
              rw [List.length_take] at h1
              omega
            generalize hs[q] = x at *
            generalize Fi.pushAll ls0 l (hs.take q) = ls at *
            obtain ⟨m, rfl⟩ : ∃ m : Nat, x = m := ⟨x.toNat, by omega⟩
            have hm : m < n := by omega
            have hmv : m < vq.length := by omega
            obtain ⟨yo, yc, hyv, _⟩ := OwnInts.read (hP.out.la.own m hmv)
            have hb1 : Hid (wr.heap[b]? = some (.cells (fCells no nnc L S C n) 130 (0, 0))) := (hP.out.but.block b hbl2 (by simpa using HBL.out)).trans HI.out.sb
            simp only [fCells] at hb1
            have hown0 : Hid (OwnInts W2.heap.size wr (.slice yo (ls.getD m []).length yc) (ls.getD m [])) := by have := hP.out.la.own m hmv; rw [hyv] at this; exact this
            have hnb : (Value.slice yo (ls.getD m []).length yc).ownBlock ≠ some b := fun e => by have := (hown0.out.lt b e).1; omega
            have hnL := hP.out.la.ne m hmv
            rw [hyv] at hnL
            have hnR : (Value.slice yo (ls.getD m []).length yc).ownBlock ≠ some R := ownsRow_ne hown0.out hP.out.rb (by decide)
            have hLR : R ≠ L := fun e => by
              have h1 := hP.out.rb
              rw [e, hP.out.la.lb] at h1
              exact absurd (Obj.cells.inj (Option.some.inj h1)).2.1 (by decide)
            have HB1 : Hid (∀ w1 : World, RowR W2.heap.size (.slice yo (ls.getD m []).length yc) (ls.getD m []) l wr.drew w1 → w1.heap[b]? = wr.heap[b]? ∧ w1.heap[L]? = wr.heap[L]? ∧ w1.heap[R]? = wr.heap[R]?) := fun w1 hR => by
              have h := hR.of_drew.grown
              exact ⟨h.block b (Array.getElem?_eq_some_iff.1 hb1.out).1 (fun e => hnb e.symm), h.block L (Array.getElem?_eq_some_iff.1 hP.out.la.lb).1 (fun e => hnL e.symm), h.block R (Array.getElem?_eq_some_iff.1 hP.out.rb).1 (fun e => hnR e.symm)⟩
            have HC : Hid (∀ w1 : World, RowR W2.heap.size (.slice yo (ls.getD m []).length yc) (ls.getD m []) l wr.drew w1 → w1.cell? ⟨b, 1, none⟩ = some (.slice (some ⟨L, 0, none⟩) n n) ∧ w1.cell? ⟨L, m, none⟩ = some (.slice yo (ls.getD m []).length yc) ∧ w1.cell? ⟨R, 0, none⟩ = some (.int .i64 l)) := fun w1 hR => by
              obtain ⟨e1, e2, e3⟩ := HB1.out w1 hR
              refine ⟨(cells_four_z (e1.trans hb1.out)).1.2.1, ?_, (cells_two_z (e3.trans hP.out.rb)).1⟩
              rw [← hyv, World.cell?_of_block (a := ⟨L, m, none⟩) e2]
              exact (hP.out.la.cell m hmv).1
            have hsm := SM2.out m
            clear hnb hnL hnR
            go_upto_region 9 with fail
            refine wp_region_row W2.heap.size (.slice yo (ls.getD m []).length yc) (ls.getD m []) l [.val (.pointer (some ⟨b, 1, none⟩)), .val (.slice (some ⟨L, 0, none⟩) n n), .val (.int .i64 (m : Int)), .val (.pointer (some ⟨b, 1, none⟩)), .val (.slice (some ⟨L, 0, none⟩) n n), .val (.int .i64 (m : Int)), .val (.pointer (some ⟨L, m, none⟩)), .val (.slice yo (ls.getD m []).length yc), .val (.pointer (some ⟨R, 0, none⟩)), .val (.int .i64 l),
              .fact (fun v w' => ∃ d, v = .slice (some ⟨d, 0, none⟩) 1 1 ∧ wr.heap.size ≤ d ∧ w'.heap[d]? = some (.cells #[.int .i64 l] 3 (0, 0))),
              .fact (fun v w' => ∃ ga cap, v = .slice (some ⟨ga, 0, none⟩) ((ls.getD m []).length + 1) cap ∧ OwnInts W2.heap.size w' (.slice (some ⟨ga, 0, none⟩) ((ls.getD m []).length + 1) cap) (ls.getD m [] ++ [l]) ∧ ((Value.slice yo (ls.getD m []).length yc).ownBlock = some ga ∨ wr.heap.size ≤ ga)),
              .val (.pointer (some ⟨L, m, none⟩))] [_] (by kernel_rfl) (by kernel_rfl) rfl ?kept ?walk
            case kept =>
              exact ⟨fun v w1 w2 hR ⟨d, e, h1, h2⟩ => ⟨d, e, h1, (hR.grown.block d (Array.getElem?_eq_some_iff.1 h2).1 (fun q => by have := (hown0.out.lt d q.symm).2; omega)).trans h2⟩, fun v w1 w2 hR ⟨ga, cap, e, h1, h2⟩ => ⟨ga, cap, e, hR.new _ _ h1, h2⟩, trivial⟩
            case walk =>
              refine wpFactsR_val (by rfl) (fun w1 hL hd K hK => ?_) ?_
              · go_simp
                exact hK _ (RowR.refl _)
              refine wpFactsR_norm (by simp only [Act.put, List.setIfInBounds_toArray, List.set_cons_zero, List.set_cons_succ]; rfl) (by simp only [List.nil_append]; rfl) ?_
              refine wpFactsR_val (by rfl) (fun w1 hL hd K hK => ?_) ?_
              · obtain ⟨d0, d1, d2⟩ := HC.out w1 hL
                go_simp
                exact hK _ (RowR.refl _)
              refine wpFactsR_norm (by simp only [Act.put, List.setIfInBounds_toArray, List.set_cons_zero, List.set_cons_succ]; rfl) (by simp only [List.cons_append, List.nil_append]; rfl) ?_
              refine wpFactsR_val (by rfl) (fun w1 hL hd K hK => ?_) ?_
              · go_simp
                exact hK _ (RowR.refl _)
              refine wpFactsR_norm (by simp only [Act.put, List.setIfInBounds_toArray, List.set_cons_zero, List.set_cons_succ]; rfl) (by simp only [List.cons_append, List.nil_append]; rfl) ?_
              refine wpFactsR_val (by rfl) (fun w1 hL hd K hK => ?_) ?_
              · go_simp
                exact hK _ (RowR.refl _)
              refine wpFactsR_norm (by simp only [Act.put, List.setIfInBounds_toArray, List.set_cons_zero, List.set_cons_succ]; rfl) (by simp only [List.cons_append, List.nil_append]; rfl) ?_
              refine wpFactsR_val (by rfl) (fun w1 hL hd K hK => ?_) ?_
              · obtain ⟨d0, d1, d2⟩ := HC.out w1 hL
                go_simp
                exact hK _ (RowR.refl _)
              refine wpFactsR_norm (by simp only [Act.put, List.setIfInBounds_toArray, List.set_cons_zero, List.set_cons_succ]; rfl) (by simp only [List.cons_append, List.nil_append]; rfl) ?_
              refine wpFactsR_val (by rfl) (fun w1 hL hd K hK => ?_) ?_
              · go_simp
                exact hK _ (RowR.refl _)
              refine wpFactsR_norm (by simp only [Act.put, List.setIfInBounds_toArray, List.set_cons_zero, List.set_cons_succ]; rfl) (by simp only [List.cons_append, List.nil_append]; rfl) ?_
              refine wpFactsR_val (by rfl) (fun w1 hL hd K hK => ?_) ?_
              · go_simp
                exact hK _ (RowR.refl _)
              refine wpFactsR_norm (by simp only [Act.put, List.setIfInBounds_toArray, List.set_cons_zero, List.set_cons_succ]; rfl) (by simp only [List.cons_append, List.nil_append]; rfl) ?_
              refine wpFactsR_val (by rfl) (fun w1 hL hd K hK => ?_) ?_
              · obtain ⟨d0, d1, d2⟩ := HC.out w1 hL
                go_simp
                exact hK _ (RowR.refl _)
              refine wpFactsR_norm (by simp only [Act.put, List.setIfInBounds_toArray, List.set_cons_zero, List.set_cons_succ]; rfl) (by simp only [List.cons_append, List.nil_append]; rfl) ?_
              refine wpFactsR_val (by rfl) (fun w1 hL hd K hK => ?_) ?_
              · go_simp
                exact hK _ (RowR.refl _)
              refine wpFactsR_norm (by simp only [Act.put, List.setIfInBounds_toArray, List.set_cons_zero, List.set_cons_succ]; rfl) (by simp only [List.cons_append, List.nil_append]; rfl) ?_
              refine wpFactsR_val (by rfl) (fun w1 hL hd K hK => ?_) ?_
              · obtain ⟨d0, d1, d2⟩ := HC.out w1 hL
                go_simp
                exact hK _ (RowR.refl _)
              refine wpFactsR_norm (by simp only [Act.put, List.setIfInBounds_toArray, List.set_cons_zero, List.set_cons_succ]; rfl) (by simp only [List.cons_append, List.nil_append]; rfl) ?_
              refine wpFactsR_fact (by rfl) (fun w1 hL hd K hK => ?_) (fun v10 => ?_)
              · go_simp
                exact hK _ _ (RowR.lat (Below.alloc (Below.refl _ _) (Nat.le_refl _) _)) ⟨_, rfl, hL.of_drew.grown.size, heap_alloc_new _ _⟩
              refine wpFactsR_norm (by simp only [Act.put, List.setIfInBounds_toArray, List.set_cons_zero, List.set_cons_succ]; rfl) (by simp only [List.cons_append, List.nil_append]; rfl) ?_
              refine wpFactsR_fact (by rfl) (fun w1 hL hd K hK => ?_) (fun v11 => ?_)
              · obtain ⟨d, rfl, hd1, hd2⟩ : ∃ d, v10 = .slice (some ⟨d, 0, none⟩) 1 1 ∧ wr.heap.size ≤ d ∧ w1.heap[d]? = some (.cells #[.int .i64 l] 3 (0, 0)) := hd.2.1
                have hs1 := hL.of_drew.grown.size
                have hs2 := hP.out.but.size
                refine wp_append_row (.tmp 54) (.tmp 57) rfl W2.heap.size (.slice yo (ls.getD m []).length yc) (ls.getD m []) rfl (hL.of_drew.old hown0.out) d 1 l rfl (by simp [World.cell?, hd2]) (by omega) (by omega) ?_
                intro ga cap w' h1 h2 h3
                exact hK _ _ h2 ⟨ga, cap, rfl, h1, h3.imp id fun h => by omega⟩
              refine wpFactsR_norm (by simp only [Act.put, List.setIfInBounds_toArray, List.set_cons_zero, List.set_cons_succ]; rfl) (by simp only [List.cons_append, List.nil_append]; rfl) ?_
              refine wpFactsR_val (by rfl) (fun w1 hL hd K hK => ?_) ?_
              · go_simp
                exact hK _ (RowR.refl _)
              refine wpFactsR_norm (by simp only [Act.put, List.setIfInBounds_toArray, List.set_cons_zero, List.set_cons_succ]; rfl) (by simp only [List.cons_append, List.nil_append]; rfl) ?_
              intro w1 hL ha
              obtain ⟨ga, cap, rfl, ho2, hgg⟩ : ∃ ga cap, v11 = .slice (some ⟨ga, 0, none⟩) ((ls.getD m []).length + 1) cap ∧ OwnInts W2.heap.size w1 (.slice (some ⟨ga, 0, none⟩) ((ls.getD m []).length + 1) cap) (ls.getD m [] ++ [l]) ∧ ((Value.slice yo (ls.getD m []).length yc).ownBlock = some ga ∨ wr.heap.size ≤ ga) := allHold_get 11 ha rfl rfl
              clear ha
              have hR := hL.of_drew
              obtain ⟨_, eL, eR⟩ := HB1.out w1 hL
              have hLw : w1.heap[L]? = some (.cells vq.toArray 29 (0, 0)) := eL.trans hP.out.la.lb
              have f0 : w1.frozen? ⟨L, m, none⟩ = false := by simp [World.frozen?, hLw]
              have hLl := (Array.getElem?_eq_some_iff.1 hLw).1
              have hc2 : w1.cell? ⟨L, m, none⟩ = some vq[m] := by simp [World.cell?, hLw, hmv]
              have hN : Hid (FPush W2 (w1.setCell ⟨L, m, none⟩ (.slice (some ⟨ga, 0, none⟩) ((ls.getD m []).length + 1) cap)) L R #[.int .i64 l, .slice (some ⟨xb, xof, none⟩) rs.length xc] (vq.set m (.slice (some ⟨ga, 0, none⟩) ((ls.getD m []).length + 1) cap)) (Fi.pushAll ls0 l (hs.take (q + 1)))) := by
                refine ⟨(hP.out.but.grown hR.grown fun k hk => (hown0.out.lt k hk).1).setCell (List.mem_cons_self ..) _ _, ?_, (Below.heap_setCell _ _ _ _ hLR).trans (eR.trans hP.out.rb)⟩
                rw [ST2.out]
                have hg2 := hR.grown
                rw [← hyv] at hg2 hgg
                exact hP.out.la.push m ga hmv l hg2 ho2 rfl hgg
              clear ho2 hgg hL hR hP HC HB1 hb1 hLw eL eR hown0
              go_wp2_with fail
              go_roundw
              case rel => exact ⟨q + 1, _, by omega, by go_num, by simp [hvq], hN⟩
              case measure => simp [intOf]; omega
          · obtain rfl : q = H := by omega
            have hfin : hs.take q = hs := List.take_of_length_le (by rw [HHL.out]; exact Nat.le_refl _)
            have N1 : Hid (LAt W2.heap.size L vq ((g.rules.take (k + 1)).foldl (Fi.pushRule (Nl.of g)) (List.replicate n [])) wr) := by
              show LAt _ _ _ _ _
              rw [ST3.out, ← hfin]; exact hP.out.la
            have N2 : Hid (ButL [L] W2 wr) := hP.out.but
            clear hP
            go_wp2_with fail
            go_roundw
            case rel => exact ⟨k + 1, vq, by omega, by go_num, hvq, N2, N1⟩
            case measure => simp [intOf]; omega
      · obtain rfl : k = g.rules.length := by omega
        have hfin : g.rules.take g.rules.length = g.rules := List.take_length
        have LA : Hid (LAt W2.heap.size L vs (Fi.lefts g.rules (Nl.of g) n) wr) := by
          have h := hla.out
          rw [hfin] at h
          exact h
        have NLS : L ≠ S := fun e => by
          have h1 := HI.out.lb
          rw [e, HI.out.ssb] at h1
          exact absurd (Obj.cells.inj (Option.some.inj h1)).2.1 (by decide)
        have NLC : L ≠ C := fun e => by
          have h1 := HI.out.lb
          rw [e, HI.out.ch] at h1; cases h1
        have NSC : S ≠ C := fun e => by
          have h1 := HI.out.ssb
          rw [e, HI.out.ch] at h1; cases h1
        have NBS : b ≠ S := fun e => by
          have h1 := HI.out.sb
          rw [e, HI.out.ssb] at h1
          exact absurd (Obj.cells.inj (Option.some.inj h1)).2.1 (by decide)
        have NBC : b ≠ C := fun e => by
          have h1 := HI.out.sb
          rw [e, HI.out.ch] at h1; cases h1
        have hkp : ∀ q, q < W2.heap.size → q ≠ L → wr.heap[q]? = W2.heap[q]? := fun q h1 h2 => hbt.out.block q h1 (by simpa using h2)
        have sb3 : Hid (wr.heap[b]? = some (.cells (fCells no nnc L S C n) 130 (0, 0))) := (hkp b hbl2 HBL.out).trans HI.out.sb
        have gb3 : Hid (wr.heap[w.heap.size]? = some (.cells #[.slice ta g.terms.length tc, .slice na g.names.length nc, .slice ra g.rules.length rac] 25 (0, 0))) := (hkp _ (Array.getElem?_eq_some_iff.1 HI.out.gb).1 (by have := HI.out.lt.1; omega)).trans HI.out.gb
        have rb3 : Hid (wr.heap[w.heap.size + 1]? = some (.cells #[.slice none 0 0, .slice none 0 0, .slice none 0 0, .chan none] 130 (0, 0))) := (hkp _ (Array.getElem?_eq_some_iff.1 HI.out.rb).1 (by have := HI.out.lt.1; omega)).trans HI.out.rb
        have ss3 : Hid (wr.heap[S]? = some (.cells (Array.replicate n (Value.slice none 0 0)) 28 (0, 0))) := (hkp _ (Array.getElem?_eq_some_iff.1 HI.out.ssb).1 (fun e => NLS e.symm)).trans HI.out.ssb
        have ch3 : Hid (wr.heap[C]? = some (.chan (n * g.terms.length) #[] false 0 0 false)) := (hkp _ (Array.getElem?_eq_some_iff.1 HI.out.ch).1 (fun e => NLC e.symm)).trans HI.out.ch
        have nul3 : Hid (BoolsAt W2.heap.size wr no (Nl.of g)) := BoolsAt.keep HI.out.nul hbt.out.size fun k o y hk hc => hbt.out.block k hk fun q => by
          rw [List.mem_singleton] at q
          subst q
          exact HNB.out k HI.out.lb o y hc
        have BW3 : Hid (Below w.heap.size w wr) := HI.out.below.trans (hbt.out.below (fun q hq => by rw [List.mem_singleton] at hq; have := HI.out.lt.1; omega) HI.out.below.size)
        have LT : Hid (w.heap.size + 2 ≤ L ∧ w.heap.size + 2 ≤ S ∧ w.heap.size + 2 ≤ C ∧ w.heap.size + 2 ≤ b) := HI.out.lt
        have hz2 : Hid (W2.heap.size ≤ wr.heap.size) := hbt.out.size
        have MW : Hid (w.heap.size ≤ W2.heap.size) := HI.out.below.size
        have hsb3 := sb3.out
        simp only [fCells] at hsb3
        obtain ⟨⟨c0, c1, c2, c3⟩, _⟩ := cells_four_z hsb3
        obtain ⟨g0, g1, g2, _⟩ := cells_three_z gb3.out
        have hb3l := (Array.getElem?_eq_some_iff.1 hsb3).1
        clear hla hbt hkp HHD HNB HI hfin hbl2
        rename World => W3
        have hmT := make_boolsN g.terms.length (by omega)
        go_wp2_with fail
        go_loopw [65] (fun i wr => ∃ (k : Nat) (Bs : List Nat), k ≤ n ∧ i = .int .i64 k ∧ Bs.length = k ∧ Hid (FRows W3 wr S g.terms.length n Bs)) (fun i _ => n - (intOf i).toNat)
        case atStart => exact ⟨0, [], Nat.zero_le _, rfl, rfl, ⟨ButL.refl _ _, by rw [ss3.out]; simp [hdrs], fun b hb => by simp at hb, List.nodup_nil⟩⟩
        case round =>
          obtain ⟨k, Bs, hk, rfl, hBs, hR⟩ := hrel
          clear g0 g1 g2 c0 c1 c2 c3
          have hbS := hR.out.but.block b hb3l (by simpa using NBS)
          have hgS := hR.out.but.block w.heap.size (Array.getElem?_eq_some_iff.1 gb3.out).1 (by have := LT.out.2.1; simp; omega)
          have hsb4 : Hid _ := hbS.trans sb3.out
          have hgb4 : Hid _ := hgS.trans gb3.out
          simp only [fCells] at hsb4
          by_cases hkl : k < n
          · have hki : (k : Int) < (n : Int) := by omega
            have HC : Hid (∀ w1 : World, Lat wr.drew w1 → w1.cell? ⟨b, 2, none⟩ = some (.slice (some ⟨S, 0, none⟩) n n) ∧ w1.cell? ⟨w.heap.size, 0, none⟩ = some (.slice ta g.terms.length tc)) := fun w1 hL =>
              ⟨(cells_four_z ((hL.of_drew.block _ (Array.getElem?_eq_some_iff.1 hsb4.out).1).trans hsb4.out)).1.2.2.1, (cells_three_z ((hL.of_drew.block _ (Array.getElem?_eq_some_iff.1 hgb4.out).1).trans hgb4.out)).1⟩
            have hSl := (Array.getElem?_eq_some_iff.1 hR.out.sb).1
            clear hbS hgS
            go_upto_region 15 with fail
            refine wp_region_lat [.val (.pointer (some ⟨b, 2, none⟩)), .val (.slice (some ⟨S, 0, none⟩) n n), .val (.int .i64 (k : Int)), .val (.pointer (some ⟨w.heap.size, 0, none⟩)), .val (.slice ta g.terms.length tc), .val (.int .i64 (g.terms.length : Int)),
              .fact (fun v w' => ∃ B, v = .slice (some ⟨B, 0, none⟩) g.terms.length g.terms.length ∧ wr.heap.size ≤ B ∧ w'.heap[B]? = some (.cells (Array.replicate g.terms.length (Value.bool false)) 4 (0, 0))),
              .val (.pointer (some ⟨S, k, none⟩))] [_] (by kernel_rfl) (by kernel_rfl) rfl ?kept ?walk
            case kept => exact ⟨fun v w1 w2 hL ⟨d, e, h1, h2⟩ => ⟨d, e, h1, by rw [hL.block _ (Array.getElem?_eq_some_iff.1 h2).1]; exact h2⟩, trivial⟩
            case walk =>
              refine wpFacts_val (by rfl) (fun w1 hL hd K hK => ?_) ?_
              · go_simp
                exact hK _ (Lat.refl _)
              refine wpFacts_norm (by simp only [Act.put, List.setIfInBounds_toArray, List.set_cons_zero, List.set_cons_succ]; rfl) (by simp only [List.nil_append]; rfl) ?_
              refine wpFacts_val (by rfl) (fun w1 hL hd K hK => ?_) ?_
              · obtain ⟨d0, d1⟩ := HC.out w1 hL
                go_simp
                exact hK _ (Lat.refl _)
              refine wpFacts_norm (by simp only [Act.put, List.setIfInBounds_toArray, List.set_cons_zero, List.set_cons_succ]; rfl) (by simp only [List.cons_append, List.nil_append]; rfl) ?_
              refine wpFacts_val (by rfl) (fun w1 hL hd K hK => ?_) ?_
              · go_simp
                exact hK _ (Lat.refl _)
              refine wpFacts_norm (by simp only [Act.put, List.setIfInBounds_toArray, List.set_cons_zero, List.set_cons_succ]; rfl) (by simp only [List.cons_append, List.nil_append]; rfl) ?_
              refine wpFacts_val (by rfl) (fun w1 hL hd K hK => ?_) ?_
              · go_simp
                exact hK _ (Lat.refl _)
              refine wpFacts_norm (by simp only [Act.put, List.setIfInBounds_toArray, List.set_cons_zero, List.set_cons_succ]; rfl) (by simp only [List.cons_append, List.nil_append]; rfl) ?_
              refine wpFacts_val (by rfl) (fun w1 hL hd K hK => ?_) ?_
              · obtain ⟨d0, d1⟩ := HC.out w1 hL
                go_simp
                exact hK _ (Lat.refl _)
              refine wpFacts_norm (by simp only [Act.put, List.setIfInBounds_toArray, List.set_cons_zero, List.set_cons_succ]; rfl) (by simp only [List.cons_append, List.nil_append]; rfl) ?_
              refine wpFacts_val (by rfl) (fun w1 hL hd K hK => ?_) ?_
              · go_simp
                exact hK _ (Lat.refl _)
              refine wpFacts_norm (by simp only [Act.put, List.setIfInBounds_toArray, List.set_cons_zero, List.set_cons_succ]; rfl) (by simp only [List.cons_append, List.nil_append]; rfl) ?_
              refine wpFacts_fact (by rfl) (fun w1 hL hd K hK => ?_) (fun v6 => ?_)
              · go_simp
                exact hK _ _ (Below.alloc (Below.refl _ _) (Nat.le_refl _) _) ⟨_, rfl, hL.of_drew.size, heap_alloc_new _ _⟩
              refine wpFacts_norm (by simp only [Act.put, List.setIfInBounds_toArray, List.set_cons_zero, List.set_cons_succ]; rfl) (by simp only [List.cons_append, List.nil_append]; rfl) ?_
              refine wpFacts_val (by rfl) (fun w1 hL hd K hK => ?_) ?_
              · go_simp
                exact hK _ (Lat.refl _)
              refine wpFacts_norm (by simp only [Act.put, List.setIfInBounds_toArray, List.set_cons_zero, List.set_cons_succ]; rfl) (by simp only [List.cons_append, List.nil_append]; rfl) ?_
              intro w1 hL ha
              obtain ⟨B, rfl, hB1, hB2⟩ : ∃ B, v6 = .slice (some ⟨B, 0, none⟩) g.terms.length g.terms.length ∧ wr.heap.size ≤ B ∧ w1.heap[B]? = some (.cells (Array.replicate g.terms.length (Value.bool false)) 4 (0, 0)) := allHold_get 6 ha rfl rfl
              clear ha
              have hS1 : w1.heap[S]? = some (.cells (hdrs Bs g.terms.length n).toArray 28 (0, 0)) := (hL.of_drew.block _ hSl).trans hR.out.sb
              have f0 : w1.frozen? ⟨S, k, none⟩ = false := by simp [World.frozen?, hS1]
              have hS1l := (Array.getElem?_eq_some_iff.1 hS1).1
              have hkh : k < (hdrs Bs g.terms.length n).length := by rw [hdrs_len _ _ _ (by omega)]; exact hkl
              have c0 : w1.cell? ⟨S, k, none⟩ = some ((hdrs Bs g.terms.length n)[k]) := by simp [World.cell?, hS1, hkh]
              have hN : Hid (FRows W3 (w1.setCell ⟨S, k, none⟩ (.slice (some ⟨B, 0, none⟩) g.terms.length g.terms.length)) S g.terms.length n (Bs ++ [B])) := by
                have := hR.out.push (by omega) hL.of_drew hB1 hB2 (Array.getElem?_eq_some_iff.1 ss3.out).1
                rw [hBs] at this
                exact this
              clear hB1 hB2 hS1 hL hR HC hsb4 hgb4
              go_wp2_with fail
              go_roundw
              case rel => exact ⟨k + 1, _, by omega, by go_num, by simp [hBs], hN⟩
              case measure => simp [intOf]; omega
          · obtain rfl : k = n := by omega
            have hki : ¬ (k : Int) < (k : Int) := by omega
            have R4 : Hid _ := hR.out.done hBs
            have C4 : Hid (wr.heap[C]? = some (.chan (k * g.terms.length) #[] false 0 0 false)) := (hR.out.but.block C (Array.getElem?_eq_some_iff.1 ch3.out).1 (by simpa using fun e => NSC e.symm)).trans ch3.out
            have RB4 : Hid (wr.heap[w.heap.size + 1]? = some (.cells #[.slice none 0 0, .slice none 0 0, .slice none 0 0, .chan none] 130 (0, 0))) := (hR.out.but.block _ (Array.getElem?_eq_some_iff.1 rb3.out).1 (by have := LT.out.2.1; simp; omega)).trans rb3.out
            have NUL4 : Hid (BoolsAt W2.heap.size wr no (Nl.of g)) := BoolsAt.keep nul3.out hR.out.but.size fun q o y hk hc => hR.out.but.block q (Nat.lt_of_lt_of_le hk hz2.out) fun e => by
              rw [List.mem_singleton] at e
              subst e
              have := cell_in ss3.out hc
              simp at this
            have LA4 : Hid (LAt W2.heap.size L vs (Fi.lefts g.rules (Nl.of g) k) wr) := LA.out.butL hR.out.but fun q hq cs fr h => by
              rw [List.mem_singleton] at hq
              subst hq
              rcases h with h | h <;> rw [ss3.out] at h
              · exact absurd (Obj.cells.inj (Option.some.inj h)).2.1 (by decide)
              · exact absurd (Obj.cells.inj (Option.some.inj h)).2.1 (by decide)
            have BW4 : Hid (Below w.heap.size w wr) := BW3.out.trans (hR.out.but.below (fun q hq => by rw [List.mem_singleton] at hq; have := LT.out.2.1; omega) BW3.out.size)
            have BSG : Hid (∀ q ∈ Bs, W3.heap.size ≤ q) := fun q hq => (hR.out.row q hq).1
            have hsb5 := hsb4.out
            obtain ⟨⟨c0, c1, c2, c3⟩, _⟩ := cells_four_z hsb5
            obtain ⟨g0, g1, g2, _⟩ := cells_three_z hgb4.out
            have hb4l := (Array.getElem?_eq_some_iff.1 hsb5).1
            have hz3 : Hid (W3.heap.size ≤ wr.heap.size) := hR.out.but.size
            clear hR nul3 LA BW3 ss3 ch3 rb3 hbS hgS hmT
            rename World => W4
            go_wp2_with fail
            have G4 : Hid (GAt S C g.terms.length (k * g.terms.length) Bs ⟨List.replicate k (List.replicate g.terms.length false), []⟩ W4) := ⟨R4.out, 0, 0, by rw [C4.out]; rfl⟩
            have NSB : Hid (b ∉ C :: Bs ∧ w.heap.size ∉ C :: Bs ∧ w.heap.size + 1 ∉ C :: Bs) := by
              have h1 := LT.out
              have h2 := BW4.out.size
              refine ⟨fun q => ?_, fun q => ?_, fun q => ?_⟩ <;> rcases List.mem_cons.1 q with q | q
              · exact NBC q
              · have := BSG.out _ q; omega
              · omega
              · have := BSG.out _ q; have := MW.out; have := hz2.out; omega
              · omega
              · have := BSG.out _ q; have := hz2.out; have := (Array.getElem?_eq_some_iff.1 RB4.out).1; have := (Array.getElem?_eq_some_iff.1 gb3.out).1; omega
            have C5 : Hid (W4.heap[C]? = some (.chan (k * g.terms.length) #[] false 0 0 false)) := C4.out
            have R5 : Hid (RowsAt S g.terms.length Bs (List.replicate k (List.replicate g.terms.length false)) W4) := R4.out
            clear g0 g1 g2 c0 c1 c2 c3 R4 C4
            go_loopw [80] (fun i wr => ∃ (t : Nat) (st : Fi.St), t ≤ g.terms.length ∧ i = .int .i64 t ∧ Hid (ButL (C :: Bs) W4 wr) ∧ Hid (GAt S C g.terms.length (k * g.terms.length) Bs st wr) ∧ Hid (Fi.Inv g.terms.length k g.rules (Nl.of g) (fun _ _ _ => False) st) ∧ Hid (∀ u : Int, 0 ≤ u → u < t → Fi.has st.ss u u = true)) (fun i _ => g.terms.length - (intOf i).toNat)
            case atStart => exact ⟨0, _, Nat.zero_le _, rfl, ButL.refl _ _, G4, Fi.Inv.start, fun u h0 h1 => by omega⟩
            case round =>
              obtain ⟨t, st, ht, rfl, hbt, hG, hI, hO⟩ := hrel
              clear G4
              have sb5 : Hid (wr.heap[b]? = some (.cells (fCells no nnc L S C k) 130 (0, 0))) := (hbt.out.block b hb4l NSB.out.1).trans hsb4.out
              have hsb6 := sb5.out
              simp only [fCells] at hsb6
              obtain ⟨⟨c0, c1, c2, c3⟩, _⟩ := cells_four_z hsb6
              have hb5l := (Array.getElem?_eq_some_iff.1 hsb6).1
              by_cases htl : t < g.terms.length
              · have hti : (t : Int) < (g.terms.length : Int) := by omega
                have htk : (t : Int) < (k : Int) := by omega
                obtain ⟨j1, _, j3, j4, j5⟩ := hI.out.grow (a := (t : Int)) (t := (t : Int)) (by omega) htk (.own (t : Int) (by omega) hti)
                have HGR : Hid _ := grow_any st k g.terms.length S C (k * g.terms.length) L nnc no Bs (t : Int) (t : Int) wr hG.out hI.out.shape.len ⟨by omega, htk⟩ ⟨by omega, hti⟩ j5
                have J1 : Hid (Fi.Inv g.terms.length k g.rules (Nl.of g) (fun _ _ _ => False) (Fi.grow st t t)) := j1.weak fun _ _ _ h => h.1
                have J2 : Hid (∀ u : Int, 0 ≤ u → u < (t + 1 : Nat) → Fi.has (Fi.grow st t t).ss u u = true) := fun u h0 h1 => by
                  by_cases e : u < t
                  · exact j4 _ _ (hO.out u h0 e)
                  · obtain rfl : u = (t : Int) := by omega
                    exact j3
                simp only [fCells] at HGR
                clear j1 j3 j4 j5 hsb6 hG hI hO
                go_wp2_with (go_at_call 112; refine Calls.mono HGR.out ?_; rintro e w5 ⟨rfl, hb5, hs5⟩)
                have N1 : Hid (ButL (C :: Bs) W4 w5) := hbt.out.trans hb5.out
                clear c0 c1 c2 c3 HGR hbt hb5 sb5 hb5l
                go_roundw
                case rel => exact ⟨t + 1, _, by omega, by go_num, N1, hs5, J1, J2⟩
                case measure => simp [intOf]; omega
              · obtain rfl : t = g.terms.length := by omega
                have hti : ¬ (g.terms.length : Int) < (g.terms.length : Int) := by omega
                have rb5 : Hid (wr.heap[w.heap.size + 1]? = some (.cells #[.slice none 0 0, .slice none 0 0, .slice none 0 0, .chan none] 130 (0, 0))) := (hbt.out.block _ (Array.getElem?_eq_some_iff.1 RB4.out).1 NSB.out.2.2).trans RB4.out
                obtain ⟨⟨d0, d1, d2, d3⟩, z0, z1, z2, z3⟩ := cells_four_z rb5.out
                have hbl2 := (Array.getElem?_eq_some_iff.1 rb5.out).1
                have hFS : Hid (∀ W6 : World, ButL [w.heap.size + 1] wr W6 → FS g k no L S C Bs vs st w W6) := fun W6 hW => by
                  have hne := hG.out.ne
                  have hlt := LT.out
                  have hnR : ∀ q ∈ C :: Bs, q ∉ [w.heap.size + 1] := fun q hq e => by
                    rw [List.mem_singleton] at e
                    rw [e] at hq
                    exact NSB.out.2.2 hq
                  have hlall : ∀ q ∈ C :: Bs, w.heap.size ≤ q := fun q hq => by
                    rcases List.mem_cons.1 hq with hq | hq
                    · omega
                    · have := BSG.out _ hq; have := hz2.out; have := MW.out; omega
                  have hbl : Below w.heap.size w wr := BW4.out.trans (hbt.out.below hlall BW4.out.size)
                  refine ⟨hbl.trans (hW.below (fun q hq => by rw [List.mem_singleton] at hq; omega) hbl.size), ⟨hlall C (List.mem_cons_self ..), fun q hq => hlall q (List.mem_cons_of_mem _ hq)⟩, ⟨W2.heap.size, ?_, fun q hq => Nat.le_trans hz2.out (BSG.out q hq)⟩, ?_, ?_, hI.out, fun u h0 h1 => hO.out u h0 h1⟩
                  · refine BoolsAt.keep NUL4.out (Nat.le_trans hbt.out.size hW.size) fun q o y hq hc => ?_
                    have h1 : wr.heap[q]? = W4.heap[q]? := hbt.out.block q (by have := hz2.out; have := hz3.out; omega) fun e => by
                      rcases List.mem_cons.1 e with e | e
                      · rw [e] at hc
                        exact cell_chan C5.out hc
                      · have := BSG.out _ e; have := hz2.out; omega
                    refine (hW.block q (by have := hz2.out; have := hz3.out; have := hbt.out.size; omega) fun e => ?_).trans h1
                    rw [List.mem_singleton] at e
                    subst e
                    have := cell_in RB4.out hc
                    simp at this
                  · refine (LAt.from (M' := w.heap.size) ((LA4.out.butL hbt.out fun q hq cs fr h => ?_).butL hW fun q hq cs fr h => ?_) MW.out)
                    · rcases List.mem_cons.1 hq with hq | hq
                      · rw [hq] at h
                        rcases h with h | h <;> rw [C5.out] at h <;> cases h
                      · obtain ⟨i, hi, rfl⟩ := List.getElem_of_mem hq
                        have hr := R5.out.row i hi
                        rcases h with h | h <;> rw [hr] at h
                        · exact absurd (Obj.cells.inj (Option.some.inj h)).2.1 (by decide)
                        · exact absurd (Obj.cells.inj (Option.some.inj h)).2.1 (by decide)
                    · rw [List.mem_singleton] at hq
                      subst hq
                      rcases h with h | h <;> rw [rb5.out] at h
                      · exact absurd (Obj.cells.inj (Option.some.inj h)).2.1 (by decide)
                      · exact absurd (Obj.cells.inj (Option.some.inj h)).2.1 (by decide)
                  · exact hG.out.keep (hW.block _ hG.out.lt.1 (by rw [List.mem_singleton]; omega)) (hW.block _ hG.out.lt.2.1 (hnR C (List.mem_cons_self ..))) fun q hq => hW.block _ (hG.out.lt.2.2 q hq) (hnR q (List.mem_cons_of_mem _ hq))
                have HB6 : Hid (ButL [w.heap.size + 1] wr ((((wr.setCell ⟨w.heap.size + 1, 0, none⟩ (.slice no k nnc)).setCell ⟨w.heap.size + 1, 1, none⟩ (.slice (some ⟨L, 0, none⟩) k k)).setCell ⟨w.heap.size + 1, 2, none⟩ (.slice (some ⟨S, 0, none⟩) k k)).setCell ⟨w.heap.size + 1, 3, none⟩ (.chan (some C)))) :=
                  ((((ButL.refl _ wr).setCell (List.mem_cons_self ..) _ _).setCell (List.mem_cons_self ..) _ _).setCell (List.mem_cons_self ..) _ _).setCell (List.mem_cons_self ..) _ _
                have k5 := gset4 (x := .slice no k nnc) (y := .slice (some ⟨L, 0, none⟩) k k) (z := .slice (some ⟨S, 0, none⟩) k k) (u := .chan (some C)) rb5.out
                have hn0 : ¬ b = w.heap.size + 1 := fun e => by have := LT.out.2.2.2; omega
                clear hsb6 hG hI hO hbt NSB
                go_wp2_with fail
                generalize ((((wr.setCell ⟨w.heap.size + 1, 0, none⟩ (.slice no k nnc)).setCell ⟨w.heap.size + 1, 1, none⟩ (.slice (some ⟨L, 0, none⟩) k k)).setCell ⟨w.heap.size + 1, 2, none⟩ (.slice (some ⟨S, 0, none⟩) k k)).setCell ⟨w.heap.size + 1, 3, none⟩ (.chan (some C))) = W6 at *
                obtain ⟨⟨e0, e1, e2, e3⟩, _⟩ := cells_four_z k5
                refine bodyPost_ret (v := .agg (fCells no nnc L S C k)) (by simp [results, Try.results111, go_sem, fCells, e0, e1, e2, e3]) rfl ⟨no, nnc, L, S, C, rfl, Bs, vs, st, hFS.out _ HB6.out⟩
end Go.Proofs.Ytdocbgfpnaiijaa

namespace Go.Proofs.Ytdocbgfpnaiijaa
open Go.RowKit Go.Conc

/-- the search in memory, and what it reads -/
structure FC (g : Gr.Gm) (n : Nat) (no : Option Addr) (L S C : Nat) (Bs : List Nat) (vs : List Value) (st : Fi.St) (w w' : World) : Prop where
  below : Below w.heap.size w w'
  lt : w.heap.size ≤ C ∧ ∀ b ∈ Bs, w.heap.size ≤ b
  nul : ∃ M, BoolsAt M w' no (Nl.of g) ∧ ∀ b ∈ Bs, M ≤ b
  lef : LAt w.heap.size L vs (Fi.lefts g.rules (Nl.of g) n) w'
  at' : GAt S C g.terms.length (n * g.terms.length) Bs st w'

theorem FS.core {g : Gr.Gm} {n : Nat} {no : Option Addr} {L S C : Nat} {Bs : List Nat} {vs : List Value} {st : Fi.St} {w W w' : World} (h : FS g n no L S C Bs vs st W w') (hW : Below w.heap.size w W) : FC g n no L S C Bs vs st w w' :=
  ⟨hW.trans (h.below.mono hW.size), ⟨Nat.le_trans hW.size h.lt.1, fun b hb => Nat.le_trans hW.size (h.lt.2 b hb)⟩, h.nul, h.lef.from hW.size, h.at'⟩
theorem FC.later {g : Gr.Gm} {n : Nat} {no : Option Addr} {L S C : Nat} {Bs : List Nat} {vs : List Value} {st : Fi.St} {w W W' : World} (h : FC g n no L S C Bs vs st w W) (hb : Below W.heap.size W W') : FC g n no L S C Bs vs st w W' := by
  obtain ⟨M, h1, h2⟩ := h.nul
  exact ⟨h.below.trans (hb.mono h.below.size), h.lt, ⟨M, BoolsAt.keep h1 hb.size fun k o y _ hc => hb.block k (World.block_lt_of_cell? _ _ hc), h2⟩, h.lef.later hb, h.at'.later hb⟩
theorem FC.step {g : Gr.Gm} {n : Nat} {no : Option Addr} {L S C : Nat} {Bs : List Nat} {vs : List Value} {st st' : Fi.St} {w W W' : World} (h : FC g n no L S C Bs vs st w W) (hb : ButL (C :: Bs) W W') (hg : GAt S C g.terms.length (n * g.terms.length) Bs st' W') : FC g n no L S C Bs vs st' w W' := by
  obtain ⟨M, h1, h2⟩ := h.nul
  obtain ⟨s, r, hch⟩ := h.at'.ch
  refine ⟨h.below.trans (hb.below (fun k hk => ?_) h.below.size), h.lt, ⟨M, BoolsAt.keep h1 hb.size fun k o y hk hc => hb.block k (World.block_lt_of_cell? _ _ hc) fun e => ?_, h2⟩, h.lef.butL hb fun q hq cs fr e => ?_, hg⟩
  · rcases List.mem_cons.1 hk with hk | hk
    · rw [hk]; exact h.lt.1
    · exact h.lt.2 k hk
  · rcases List.mem_cons.1 e with e | e
    · rw [e] at hc; exact cell_chan hch hc
    · have := h2 k e; omega
  · rcases List.mem_cons.1 hq with hq | hq
    · rw [hq] at e
      rcases e with e | e <;> rw [hch] at e <;> cases e
    · obtain ⟨i, hi, rfl⟩ := List.getElem_of_mem hq
      have hr := h.at'.rs.row i hi
      rcases e with e | e <;> rw [hr] at e
      · exact absurd (Obj.cells.inj (Option.some.inj e)).2.1 (by decide)
      · exact absurd (Obj.cells.inj (Option.some.inj e)).2.1 (by decide)
/-- a block of another kind is none of the search's -/
theorem FC.not {g : Gr.Gm} {n : Nat} {no : Option Addr} {L S C : Nat} {Bs : List Nat} {vs : List Value} {st : Fi.St} {w W : World} (h : FC g n no L S C Bs vs st w W) {X : Nat} {cs : Array Value} {t : TypeId} {fr : Nat × Nat} (hX : W.heap[X]? = some (.cells cs t fr)) (ht : t ≠ 4) : X ∉ C :: Bs := by
  intro q
  rcases List.mem_cons.1 q with q | q
  · obtain ⟨s, r, hch⟩ := h.at'.ch
    rw [← q, hX] at hch; cases hch
  · obtain ⟨i, hi, e⟩ := List.getElem_of_mem q
    have hr := h.at'.rs.row i hi
    rw [e, hX] at hr
    exact ht (Obj.cells.inj (Option.some.inj hr)).2.1

/-- amid the search -/
structure SInv8 (g : Gr.Gm) (n : Nat) (no : Option Addr) (nnc L S C X : Nat) (Bs : List Nat) (vs : List Value) (st : Fi.St) (w W : World) : Prop where
  core : FC g n no L S C Bs vs st w W
  own : Fi.Own g.terms.length st.ss
  sb : W.heap[X]? = some (.cells (fCells no nnc L S C n) 130 (0, 0))
  rb : W.heap[w.heap.size + 1]? = some (.cells #[.slice none 0 0, .slice none 0 0, .slice none 0 0, .chan none] 130 (0, 0))

/-- a settled search -/
structure FE (g : Gr.Gm) (n : Nat) (no : Option Addr) (S : Nat) (Bs : List Nat) (w w' : World) : Prop where
  below : Below w.heap.size w w'
  nul : BoolsAt w'.heap.size w' no (Nl.of g)
  rs : RowsAt S g.terms.length Bs (Fi.rows g.rules (Nl.of g) g.terms.length n) w'

set_option maxRecDepth 100000 in
set_option maxHeartbeats 3200000 in
theorem settled_any (g : Gr.Gm) (A : GA) (n : Nat) (w : World) (hn : g.terms.length + g.names.length = n) (hg : Gr.good g = true) (hm : ∀ x ∈ g.rules, x.2.length ≤ maxLen) (h : GmAt w.heap.size w g A) :
    Calls Try.prog 105 #[.agg (gmCells g A)] w fun e w' => ∃ no nnc L S C, e = .returned (.agg (fCells no nnc L S C n)) ∧ ∃ Bs, Hid (FE g n no S Bs w w') := by
  obtain ⟨ta, tc, na, nc, ra, rac⟩ := A
  have HG : Hid (GmAt w.heap.size w g ⟨ta, tc, na, nc, ra, rac⟩) := h
  have HF0 := Nl.fit_of hg
  rw [hn] at HF0
  have HF : Hid (Nl.Fit g.terms.length n g.rules) := HF0
  have HBG : Hid (∀ W : World, Below w.heap.size w W → Calls Try.prog 111 #[.agg (gmCells g ⟨ta, tc, na, nc, ra, rac⟩)] W fun e w' => ∃ no nnc L S C, e = .returned (.agg (fCells no nnc L S C n)) ∧ ∃ Bs vs st, Hid (FS g n no L S C Bs vs st W w')) := fun W hW => fbegun_any g _ n W hn hg hm (HG.out.next hW)
  have hB : Hid (Below w.heap.size w ((w.alloc (Obj.cells #[.slice ta g.terms.length tc, .slice na g.names.length nc, .slice ra g.rules.length rac] 25)).alloc (Obj.cells #[.slice none 0 0, .slice none 0 0, .slice none 0 0, .chan none] 130))) := ((Below.refl _ w).alloc (Nat.le_refl _) _).alloc (by simp) _
  have b1 : Hid (((w.alloc (Obj.cells #[.slice ta g.terms.length tc, .slice na g.names.length nc, .slice ra g.rules.length rac] 25)).alloc (Obj.cells #[.slice none 0 0, .slice none 0 0, .slice none 0 0, .chan none] 130)).heap[w.heap.size + 1]? = some (.cells #[.slice none 0 0, .slice none 0 0, .slice none 0 0, .chan none] 130 (0, 0))) := by
    show _ = _
    have := heap_alloc_new (w.alloc (Obj.cells #[.slice ta g.terms.length tc, .slice na g.names.length nc, .slice ra g.rules.length rac] 25)) (Obj.cells #[.slice none 0 0, .slice none 0 0, .slice none 0 0, .chan none] 130)
    simpa using this
  clear h hm HF0
  simp only [gmCells] at HBG ⊢
  go_enter Try.func105, Try.ntmps105
  go_wp2_with (go_at_call 111; fail)
  generalize ((w.alloc (Obj.cells #[.slice ta g.terms.length tc, .slice na g.names.length nc, .slice ra g.rules.length rac] 25)).alloc (Obj.cells #[.slice none 0 0, .slice none 0 0, .slice none 0 0, .chan none] 130)) = W at *
  refine Calls.mono (HBG.out _ hB.out) ?_
  rintro e w2 ⟨no, nnc, L, S, C, rfl, Bs, vs, st, hFS⟩
  have hC0 : Hid _ := hFS.out.core hB.out
  have hI0 : Hid _ := hFS.out.inv
  have hO0 : Hid _ := hFS.out.own
  have hz := hB.out.size
  have rb2 : Hid (w2.heap[w.heap.size + 1]? = some (.cells #[.slice none 0 0, .slice none 0 0, .slice none 0 0, .chan none] 130 (0, 0))) := (hFS.out.below.block _ (Array.getElem?_eq_some_iff.1 b1.out).1).trans b1.out
  have HI : Hid (SInv8 g n no nnc L S C w2.heap.size Bs vs st w (w2.alloc (Obj.cells #[.slice no n nnc, .slice (some ⟨L, 0, none⟩) n n, .slice (some ⟨S, 0, none⟩) n n, .chan (some C)] 130))) :=
    ⟨hC0.out.later ((Below.refl _ w2).alloc (Nat.le_refl _) _), hO0.out, heap_alloc_new w2 _, (Below.heap_alloc _ _ _ (Array.getElem?_eq_some_iff.1 rb2.out).1).trans rb2.out⟩
  clear hFS hC0 hO0 rb2 b1 HBG hz
  simp only [fCells]
  go_upto_region 2 with fail
  generalize (w2.alloc (Obj.cells #[.slice no n nnc, .slice (some ⟨L, 0, none⟩) n n, .slice (some ⟨S, 0, none⟩) n n, .chan (some C)] 130)) = W3 at *
  generalize w2.heap.size = X at *
  go_loopw [4] (fun _ wr => ∃ (st : Fi.St), Hid (SInv8 g n no nnc L S C X Bs vs st w wr) ∧ Hid (Fi.Inv g.terms.length n g.rules (Nl.of g) (fun _ _ _ => False) st)) (fun _ wr => Fi.left g.terms.length n (gstOf S C wr))
  case atStart => exact ⟨st, HI, hI0⟩
  case round =>
    obtain ⟨st', hA, hJ⟩ := hrel
    clear HI hI0
    have hsb := hA.out.sb
    simp only [fCells] at hsb
    obtain ⟨⟨c0, c1, c2, c3⟩, _⟩ := cells_four_z hsb
    have hbl := (Array.getElem?_eq_some_iff.1 hsb).1
    clear hsb
    obtain ⟨sn, rn, hch⟩ := hA.out.core.at'.ch
    have HCH : Hid _ := hch
    clear hch
    obtain ⟨ss, q⟩ := st'
    cases q with
    | nil =>
      go_upto_region 3 with fail
      refine wp_region_head ?_
      refine inReg_default (c := C) (cap := n * g.terms.length) (s := sn) (r := rn) (z := .agg #[.int .i64 0, .int .i64 0]) (tm := false) rfl rfl (by simp [go_sem, execOp, rcase, Act.eval]) HCH.out ?_
      refine inReg_list ?_
      have hd : ss = Fi.rows g.rules (Nl.of g) g.terms.length n := hJ.out.done hA.out.own
      have hR := hA.out.core.at'.rs
      simp only at hR
      rw [hd] at hR
      obtain ⟨M, hN, hM⟩ := hA.out.core.nul
      have hFE : Hid (∀ W6 : World, ButL [w.heap.size + 1] wr W6 → FE g n no S Bs w W6) := fun W6 hW => by
        have hnr := hA.out.core.not hA.out.rb (by decide)
        have hrl := (Array.getElem?_eq_some_iff.1 hA.out.rb).1
        refine ⟨hA.out.core.below.trans (hW.below (fun q hq => by rw [List.mem_singleton] at hq; omega) hA.out.core.below.size), BoolsAt.size (BoolsAt.keep hN hW.size fun k o y _ hc => hW.block k (World.block_lt_of_cell? _ _ hc) fun e => ?_), hR.butL hW ?_ fun b hb e => ?_⟩
        · rw [List.mem_singleton] at e
          rw [e] at hc
          have := cell_in hA.out.rb hc
          simp at this
        · intro e
          rw [List.mem_singleton] at e
          have h1 := hR.sb
          rw [e, hA.out.rb] at h1
          exact absurd (Obj.cells.inj (Option.some.inj h1)).2.1 (by decide)
        · rw [List.mem_singleton] at e
          rw [e] at hb
          exact hnr (List.mem_cons_of_mem _ hb)
      obtain ⟨⟨d0, d1, d2, d3⟩, z0, z1, z2, z3⟩ := cells_four_z hA.out.rb
      have hbl2 := (Array.getElem?_eq_some_iff.1 hA.out.rb).1
      have HB6 : Hid (ButL [w.heap.size + 1] wr ((((wr.setCell ⟨w.heap.size + 1, 0, none⟩ (.slice no n nnc)).setCell ⟨w.heap.size + 1, 1, none⟩ (.slice (some ⟨L, 0, none⟩) n n)).setCell ⟨w.heap.size + 1, 2, none⟩ (.slice (some ⟨S, 0, none⟩) n n)).setCell ⟨w.heap.size + 1, 3, none⟩ (.chan (some C)))) :=
        ((((ButL.refl _ wr).setCell (List.mem_cons_self ..) _ _).setCell (List.mem_cons_self ..) _ _).setCell (List.mem_cons_self ..) _ _).setCell (List.mem_cons_self ..) _ _
      have k5 := gset4 (x := .slice no n nnc) (y := .slice (some ⟨L, 0, none⟩) n n) (z := .slice (some ⟨S, 0, none⟩) n n) (u := .chan (some C)) hA.out.rb
      clear hA hJ HCH hR hN hM hd
      go_wp2_with fail
      generalize ((((wr.setCell ⟨w.heap.size + 1, 0, none⟩ (.slice no n nnc)).setCell ⟨w.heap.size + 1, 1, none⟩ (.slice (some ⟨L, 0, none⟩) n n)).setCell ⟨w.heap.size + 1, 2, none⟩ (.slice (some ⟨S, 0, none⟩) n n)).setCell ⟨w.heap.size + 1, 3, none⟩ (.chan (some C))) = W6 at *
      obtain ⟨⟨e0, e1, e2, e3⟩, _⟩ := cells_four_z k5
      refine bodyPost_ret (v := .agg (fCells no nnc L S C n)) (by simp [results, Try.results105, go_sem, fCells, e0, e1, e2, e3]) rfl ⟨no, nnc, L, S, C, rfl, Bs, hFE.out _ HB6.out⟩
    | cons p q =>
      obtain ⟨a, t⟩ := p
      go_upto_region 3 with fail
      refine wp_region_head ?_
      refine inReg_taken (c := C) (cap := n * g.terms.length) (buf := (((a, t) :: q).map gainV).toArray) (s := sn) (r := rn) (z := .agg #[.int .i64 0, .int .i64 0]) (closed := false) (tm := false) rfl rfl (by simp [go_sem, execOp, rcase, Act.eval]) HCH.out (by simp) ?_
      refine inReg_list ?_
      have hnX := hA.out.core.not hA.out.sb (by decide)
      have hnR := hA.out.core.not hA.out.rb (by decide)
      have S4 : Hid _ := hA.out.core.at'.take sn (rn + 1)
      have hb4 : Hid (ButL (C :: Bs) wr (wr.setChan C (n * g.terms.length) ((((a, t) :: q).map gainV).toArray.extract 1 (((a, t) :: q).map gainV).toArray.size) false sn (rn + 1) false)) := (ButL.refl _ wr).setChan (List.mem_cons_self ..) _ _ _ _ _ _
      have hx0 : (((a, t) :: q).map gainV).toArray.getD 0 undef = .agg #[.int .i64 a, .int .i64 t] := by simp [gainV]
      rw [hx0]
      generalize (wr.setChan C (n * g.terms.length) ((((a, t) :: q).map gainV).toArray.extract 1 (((a, t) :: q).map gainV).toArray.size) false sn (rn + 1) false) = W4 at *
      obtain ⟨hi4, hlt4, hal, hls⟩ := hJ.out.take HF.out
      have e1 := hA.out.core.at'.read
      have C4 : Hid _ := hA.out.core.step hb4.out S4.out
      have sb4 : Hid (W4.heap[X]? = some (.cells (fCells no nnc L S C n) 130 (0, 0))) := (hb4.out.block _ hbl hnX).trans hA.out.sb
      have rb4 : Hid _ := (hb4.out.block _ (Array.getElem?_eq_some_iff.1 hA.out.rb).1 hnR).trans hA.out.rb
      have O4 : Hid (Fi.Own g.terms.length ss) := hA.out.own
      obtain ⟨MO, hMO⟩ : ∃ MO, Fi.left g.terms.length n (gstOf S C wr) = MO := ⟨_, rfl⟩
      have HM0 : Hid (Fi.left g.terms.length n (⟨ss, q⟩ : Fi.St) < MO) := by
        show _ < _
        rw [← hMO, e1]; exact hlt4
      have HMO : Hid (Fi.left g.terms.length n (gstOf S C wr) = MO) := hMO
      clear hMO
      obtain ⟨k, rfl⟩ : ∃ k : Nat, a = k := ⟨a.toNat, by omega⟩
      have hkn : k < n := by omega
      have hvl : vs.length = n := by rw [hA.out.core.lef.len, Fi.lefts_len HF.out]
      have hkv : k < vs.length := by omega
      simp only [Int.toNat_natCast] at hi4 hls
      obtain ⟨lo, lc, hvk, _⟩ := OwnInts.read (C4.out.lef.own k hkv)
      have VK : Hid (vs[k] = .slice lo ((Fi.lefts g.rules (Nl.of g) n).getD k []).length lc) := hvk
      have cL : W4.cell? ⟨L, k, none⟩ = some (.slice lo ((Fi.lefts g.rules (Nl.of g) n).getD k []).length lc) := by rw [← hvk]; exact (C4.out.lef.cell k hkv).1
      have hLl := (Array.getElem?_eq_some_iff.1 C4.out.lef.lb).1
      have HLS : Hid (∀ l ∈ (Fi.lefts g.rules (Nl.of g) n).getD k [], (0 ≤ l ∧ l < n) ∧ Fi.Beg g.rules (Nl.of g) g.terms.length l t) := hls
      have HI4 : Hid _ := hi4
      have ht4 : 0 ≤ t ∧ t < g.terms.length := (hJ.out.shape.lt (hJ.out.q ((k : Int), t) (List.mem_cons_self ..))).2
      have hbn : Hid (Below W4.heap.size W4 (W4.alloc (Obj.cells #[.int .i64 (k : Int), .int .i64 t] 137))) := (Below.refl _ W4).alloc (Nat.le_refl _) _
      have P5 : Hid (SInv8 g n no nnc L S C X Bs vs ⟨ss, q⟩ w (W4.alloc (Obj.cells #[.int .i64 (k : Int), .int .i64 t] 137))) :=
        ⟨C4.out.later hbn.out, O4.out, (hbn.out.block _ (Array.getElem?_eq_some_iff.1 sb4.out).1).trans sb4.out, (hbn.out.block _ (Array.getElem?_eq_some_iff.1 rb4.out).1).trans rb4.out⟩
      have kn : Hid ((W4.alloc (Obj.cells #[.int .i64 (k : Int), .int .i64 t] 137)).heap[W4.heap.size]? = some (.cells #[.int .i64 (k : Int), .int .i64 t] 137 (0, 0))) := heap_alloc_new W4 _
      have hsb4 := sb4.out
      simp only [fCells] at hsb4
      clear c0 c1 c2 c3
      obtain ⟨⟨c0, c1, c2, c3⟩, _⟩ := cells_four_z hsb4
      have hbl4 := (Array.getElem?_eq_some_iff.1 hsb4).1
      clear hi4 hls hlt4 hA hJ HCH S4 hb4 hx0 e1 C4 O4 hvk hsb4 rb4 hnX hnR hbl
      have hki : (k : Int) < (n : Int) := by omega
      obtain ⟨ls, hlse⟩ : ∃ ls, (Fi.lefts g.rules (Nl.of g) n).getD k [] = ls := ⟨_, rfl⟩
      rw [hlse] at HLS HI4 VK cL
      have LSE : Hid ((Fi.lefts g.rules (Nl.of g) n).getD k [] = ls) := hlse
      have hls8 : ls.length ≤ 480 := by
        obtain ⟨hsz, h8⟩ := Nl.sizes_of hg
        have h1 := Fi.fold_small (nl := Nl.of g) k (rs := g.rules) (ls := List.replicate n []) h8
        have h2 : ((List.replicate n ([] : List Int)).getD k []).length = 0 := by
          rw [List.getD_eq_getElem?_getD, List.getElem?_replicate]; split <;> rfl
        rw [← hlse]
        unfold Fi.lefts
        omega
      clear hlse
      go_wp2_with fail
      generalize (W4.alloc (Obj.cells #[.int .i64 (k : Int), .int .i64 t] 137)) = W5 at *
      generalize W4.heap.size = G at *
      go_loopw [23] (fun i wr => ∃ (m : Nat) (st : Fi.St), m ≤ ls.length ∧ i = .int .i64 m ∧ Hid (SInv8 g n no nnc L S C X Bs vs st w wr) ∧ Hid (wr.heap[G]? = some (.cells #[.int .i64 (k : Int), .int .i64 t] 137 (0, 0))) ∧ Hid (Fi.Inv g.terms.length n g.rules (Nl.of g) (fun _ u l => u = t ∧ l ∈ ls.drop m) st) ∧ Hid (Fi.left g.terms.length n st ≤ Fi.left g.terms.length n ⟨ss, q⟩)) (fun i _ => ls.length - (intOf i).toNat)
      case atStart => exact ⟨0, _, Nat.zero_le _, rfl, P5, kn, HI4, Nat.le_refl _⟩
      case round =>
        obtain ⟨m, st, hm, rfl, hA, hG, hJ, hL⟩ := hrel
        clear P5 kn HI4 c0 c1 c2 c3 cL sb4
        by_cases hml : m < ls.length
        · have how := hA.out.core.lef.own k hkv
          rw [LSE.out] at how
          obtain ⟨lo2, lc2, e2, rd, _⟩ := OwnInts.read how
          clear how
          rw [VK.out] at e2
          obtain ⟨rfl, rfl⟩ : lo = lo2 ∧ lc = lc2 := by
            simp only [Value.slice.injEq] at e2
            exact ⟨e2.1, e2.2.2⟩
          obtain ⟨lb, lof, rfl, _, _, l0⟩ := IntsAt.get rd m hml
          obtain ⟨⟨y0, y1⟩, hbg⟩ := HLS.out _ (List.getElem_mem hml)
          have J2 : Hid _ := hJ.out.again hml y0 y1 hbg
          obtain ⟨_, L2, _, M2, hrm⟩ := hJ.out.grow y0 y1 hbg
          have hnX := hA.out.core.not hA.out.sb (by decide)
          have hnR := hA.out.core.not hA.out.rb (by decide)
          have hnG := hA.out.core.not hG.out (by decide)
          have HX : Hid (X ∉ C :: Bs ∧ w.heap.size + 1 ∉ C :: Bs ∧ G ∉ C :: Bs) := ⟨hnX, hnR, hnG⟩
          have HGR : Hid _ := grow_any st n g.terms.length S C (n * g.terms.length) L nnc no Bs ls[m] t wr hA.out.core.at' hJ.out.shape.len ⟨y0, y1⟩ ht4 hrm
          have O2 : Hid (Fi.Own g.terms.length (Fi.grow st ls[m] t).ss) := fun u h0 h1 => M2 _ _ (hA.out.own u h0 h1)
          have HL2 : Hid _ := Nat.le_trans L2 hL.out
          have MM : Hid (∀ u v, Fi.has st.ss u v = true → Fi.has (Fi.grow st ls[m] t).ss u v = true) := M2
          have hsb6 := hA.out.sb
          simp only [fCells] at hsb6 HGR
          obtain ⟨⟨c0, c1, c2, c3⟩, _⟩ := cells_four_z hsb6
          obtain ⟨g0, g1, _⟩ := cells_two_z hG.out
          have hb6l := (Array.getElem?_eq_some_iff.1 hsb6).1
          have hg6l := (Array.getElem?_eq_some_iff.1 hG.out).1
          clear rd e2 hJ hbg L2 M2 hrm hsb6 hnX hnR hnG MM
          generalize ls[m] = y at *
          go_wp2_with (go_at_call 112; refine Calls.mono HGR.out ?_; rintro e w5 ⟨rfl, hb5, hs5⟩)
          have N1 : Hid (SInv8 g n no nnc L S C X Bs vs (Fi.grow st y t) w w5) :=
            ⟨hA.out.core.step hb5.out hs5.out, O2.out, (hb5.out.block _ hb6l HX.out.1).trans hA.out.sb, (hb5.out.block _ (Array.getElem?_eq_some_iff.1 hA.out.rb).1 HX.out.2.1).trans hA.out.rb⟩
          have N2 : Hid _ := (hb5.out.block _ hg6l HX.out.2.2).trans hG.out
          clear c0 c1 c2 c3 g0 g1 l0 HGR hb5 hs5 hA hG O2 hL
          go_roundw
          case rel => exact ⟨m + 1, _, by omega, by go_num, N1, N2, J2, HL2⟩
          case measure => simp [intOf]; omega
        · obtain rfl : m = ls.length := by omega
          have J2 : Hid _ := hJ.out.rest
          have e2 := hA.out.core.at'.read
          have HM : Hid (Fi.left g.terms.length n (gstOf S C wr) < MO) := by
            show _ < _
            rw [e2]
            exact Nat.lt_of_le_of_lt hL.out HM0.out
          clear hJ hG hL e2
          go_wp2_with fail
          go_roundw
          case rel => exact ⟨st, hA, J2⟩
          case measure => exact Nat.lt_of_lt_of_eq HM.out HMO.out.symm
end Go.Proofs.Ytdocbgfpnaiijaa
