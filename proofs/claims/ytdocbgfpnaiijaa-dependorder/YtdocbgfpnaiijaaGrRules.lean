/-
  Layer 3 (grammar): symbolOf, ruleOf: an alternative's rule.
-/
import Derived.Test.YtdocbgfpnaiijaaGrTexts
namespace Go.Proofs.Ytdocbgfpnaiijaa
open Go.RowKit

set_option maxHeartbeats 800000 in
theorem symbolOf_any (g : Gr.Gm) (A : GA) (t : Rd.Tk) (w : World) (hT : StrsAt w.heap.size w A.ta g.terms) (hN : StrsAt w.heap.size w A.na g.names) (h1 : g.terms.length ≤ 2000) (h2 : g.names.length ≤ 2000) :
    Calls Try.prog 91 #[.agg (gmCells g A), tkVal t] w fun e w' => e = .returned (.int .i64 (Gr.sym g.terms g.names t)) ∧ Below w.heap.size w w' := by
  have HT : Hid (StrsAt w.heap.size w A.ta g.terms) := hT
  have HN : Hid (StrsAt w.heap.size w A.na g.names) := hN
  clear hT hN
  obtain ⟨tk, tx, tp⟩ := t
  have hp := Gr.pos_has tx g.names
  have hp1 := hp.1
  have hp2 := hp.2.2
  clear hp
  unfold tkVal gmCells
  simp only
  have HB : Hid (∀ n, Below w.heap.size w (((w.alloc (Obj.cells #[Value.slice A.ta g.terms.length A.tc, Value.slice A.na g.names.length A.nc, Value.slice A.ra g.rules.length A.rc] 25)).alloc (Obj.cells #[Value.int IntKind.i64 tk, Value.string tx, Value.int IntKind.i64 tp] 101)).drewN n)) :=
    fun n => below_drewN (((Below.refl _ w).alloc (Nat.le_refl _) _).alloc (by simp) _) n
  by_cases hk : tk = 2
  · subst hk
    have R : Hid (Gr.pos tx g.terms = Gr.sym g.terms g.names ⟨2, tx, tp⟩) := by show _ = _; simp [Gr.sym]
    go_enter Try.func91, Try.ntmps91
    go_wp2_with (go_at_call 102; refine (indexStr_any _ h1 _ _ _ _ (HT.out.later (HB.out 0)).size).mono ?_; rintro e w1 ⟨rfl, rfl⟩)
    go_ret
    exact ⟨ret_int R.out, HB.out 0⟩
  · have hk2 : (tk == 2) = false := by simp [hk]
    have R : Hid ((g.terms.length : Int) + Gr.pos tx g.names = Gr.sym g.terms g.names ⟨tk, tx, tp⟩) := by show _ = _; simp [Gr.sym, hk]
    clear hk
    go_enter Try.func91, Try.ntmps91
    go_wp2_with fail
    go_quiet (first | (go_at_call 102; exact Calls.quiet_of ((indexStr_any _ h2 _ _ _ _ (HN.out.later (HB.out _)).size).mono (fun e w' h => ⟨h.1, 0, h.2⟩))))
    go_wp2_with fail
    go_ret
    exact ⟨ret_int R.out, HB.out _⟩

theorem cells_two_z {w : World} {b : Nat} {x y : Value} {t : TypeId} (h : w.heap[b]? = some (.cells #[x, y] t (0, 0))) :
    w.cell? ⟨b, 0, none⟩ = some x ∧ w.cell? ⟨b, 1, none⟩ = some y ∧ w.frozen? ⟨b, 0, none⟩ = false ∧ w.frozen? ⟨b, 1, none⟩ = false := by
  simp [World.cell?, World.frozen?, h]
theorem cells_three_z {w : World} {b : Nat} {x y z : Value} {t : TypeId} (h : w.heap[b]? = some (.cells #[x, y, z] t (0, 0))) :
    w.cell? ⟨b, 0, none⟩ = some x ∧ w.cell? ⟨b, 1, none⟩ = some y ∧ w.cell? ⟨b, 2, none⟩ = some z ∧ w.frozen? ⟨b, 0, none⟩ = false ∧ w.frozen? ⟨b, 1, none⟩ = false ∧ w.frozen? ⟨b, 2, none⟩ = false := by
  simp [World.cell?, World.frozen?, h]

/-- what holds of memory while ruleOf goes: its grammar's block, its result's block, its own variable's block X, the row -/
structure QInv (w wr : World) (g : Gr.Gm) (A : GA) (X : Nat) (l : Int) (v : Value) (done : List Int) : Prop where
  below : Below w.heap.size w wr
  lt : w.heap.size + 2 < X ∧ X < wr.heap.size
  gb : wr.heap[w.heap.size]? = some (.cells #[.slice A.ta g.terms.length A.tc, .slice A.na g.names.length A.nc, .slice A.ra g.rules.length A.rc] 25 (0, 0))
  rb : wr.heap[w.heap.size + 2]? = some (.cells #[.int .i64 0, .slice none 0 0] 31 (0, 0))
  ab : wr.heap[X]? = some (.cells #[.int .i64 l, v] 31 (0, 0))
  own : OwnInts (X + 1) wr v done

theorem QInv.later {w wr w1 : World} {g : Gr.Gm} {A : GA} {X : Nat} {l : Int} {v : Value} {done : List Int} (h : QInv w wr g A X l v done) (hb : Below wr.heap.size wr w1) : QInv w w1 g A X l v done where
  below := h.below.trans (hb.mono h.below.size)
  lt := ⟨h.lt.1, Nat.lt_of_lt_of_le h.lt.2 hb.size⟩
  gb := by rw [hb.block _ (by have := h.lt; omega)]; exact h.gb
  rb := by rw [hb.block _ (by have := h.lt; omega)]; exact h.rb
  ab := by rw [hb.block X h.lt.2]; exact h.ab
  own := ownsRow_below h.own hb

theorem QInv.drew {w wr : World} {g : Gr.Gm} {A : GA} {X : Nat} {l : Int} {v : Value} {done : List Int} (h : QInv w wr g A X l v done) : QInv w wr.drew g A X l v done := ⟨h.below.drew, h.lt, h.gb, h.rb, h.ab, h.own⟩

theorem QInv.grown {w wr w1 : World} {g : Gr.Gm} {A : GA} {X : Nat} {l : Int} {v : Value} {done : List Int} (h : QInv w wr g A X l v done) (hg : wr.grownBy w1 v.ownBlock) (k : Nat) (hk : k ≤ X) : w1.heap[k]? = wr.heap[k]? :=
  hg.block k (by have := h.lt; omega) (fun e => by have := (h.own.lt _ e.symm).1; omega)

theorem QInv.push {w wr w1 : World} {g : Gr.Gm} {A : GA} {X : Nat} {l : Int} {v v' : Value} {done : List Int} (h : QInv w wr g A X l v done) (t : Int) (hg : wr.grownBy w1 v.ownBlock)
    (ho : OwnInts (X + 1) w1 v' (done ++ [t])) : QInv w (w1.setCell ⟨X, 1, none⟩ v') g A X l v' (done ++ [t]) where
  below := (h.below.grown hg h.below.size (fun k hk => by have := (h.own.lt k hk).1; have := h.lt; omega)).setCell (by have := h.lt; show w.heap.size ≤ X; omega) _
  lt := ⟨h.lt.1, by rw [size_setCell]; exact Nat.lt_of_lt_of_le h.lt.2 hg.size⟩
  gb := by rw [Below.heap_setCell _ _ _ _ (by show w.heap.size ≠ X; have := h.lt; omega), h.grown hg _ (by have := h.lt; omega)]; exact h.gb
  rb := by rw [Below.heap_setCell _ _ _ _ (by show w.heap.size + 2 ≠ X; have := h.lt; omega), h.grown hg _ (by have := h.lt; omega)]; exact h.rb
  ab := by simp [World.setCell, Array.getElem?_modify, h.grown hg X (Nat.le_refl _), h.ab]
  own := ownsRow_setCell_below ho (by exact Nat.lt_succ_self _) _

/-- what ruleOf comes to -/
def RulePost (w : World) (r : Gr.Rl) (e : Ending) (w' : World) : Prop :=
  ∃ xo xc, e = .returned (.agg #[.int .i64 r.1, .slice xo r.2.length xc]) ∧ OwnInts w.heap.size w' (.slice xo r.2.length xc) r.2 ∧ Below w.heap.size w w'

set_option maxHeartbeats 3200000 in
theorem ruleOf_any (g : Gr.Gm) (A : GA) (l : Rd.Tk) (ts : List Rd.Tk) (ao : Option Addr) (c : Nat) (w : World) (hl : ts.length ≤ 8) (h : TksAt w.heap.size w ao ts) (hT : StrsAt w.heap.size w A.ta g.terms) (hN : StrsAt w.heap.size w A.na g.names) (h1 : g.terms.length ≤ 2000) (h2 : g.names.length ≤ 2000) :
    Calls Try.prog 74 #[.agg (gmCells g A), .agg #[.int .i64 l.kind, .string l.text, .int .i64 l.pos, .slice ao ts.length c]] w (RulePost w (Gr.rule g.terms g.names (l, ts))) := by
  have HT : Hid (TksAt w.heap.size w ao ts) := h
  have HS : Hid (∀ (t : Rd.Tk) (W : World), Below w.heap.size w W → Calls Try.prog 91 #[.agg (gmCells g A), tkVal t] W fun e w' => e = .returned (.int .i64 (Gr.sym g.terms g.names t)) ∧ Below W.heap.size W w') :=
    fun t W hW => symbolOf_any g A t W (hT.later hW).size (hN.later hW).size h1 h2
  clear h hT hN
  obtain ⟨i0, hi, hz0, hz1, hz2⟩ := info_parts Try.infoIn
  have HI : Hid (Try.prog.info? 3 = some i0 ∧ i0.zero = some (.int .i64 0) ∧ i0.size = 1 ∧ i0.bytes = 8) := ⟨hi, hz0, hz1, hz2⟩
  clear hi hz0 hz1 hz2
  obtain ⟨lk, lx, lp⟩ := l
  unfold gmCells tkVal at *
  simp only at HS ⊢
  go_enter Try.func74, Try.ntmps74
  go_wp2_with fail
  have HL : Hid _ := HS.out ⟨lk, lx, lp⟩
  simp only at HL
  refine (HL.out _ ((((Below.refl _ w).alloc (Nat.le_refl _) _).alloc (by simp) _).alloc (by simp; omega) _)).mono ?_
  rintro e w1 ⟨rfl, hb⟩
  have hb0 : Below w.heap.size w w1 := ((((Below.refl _ w).alloc (Nat.le_refl _) _).alloc (by simp) _).alloc (by simp; omega) _).trans (hb.mono (by simp; omega))
  have hz : w.heap.size + 2 < w1.heap.size := by have := hb.size; simp at this; omega
  have kb0 : w1.heap[w.heap.size]? = some (.cells #[.slice A.ta g.terms.length A.tc, .slice A.na g.names.length A.nc, .slice A.ra g.rules.length A.rc] 25 (0, 0)) := by
    rw [hb.block _ (by simp; omega), Below.heap_alloc _ _ _ (by simp; omega), Below.heap_alloc _ _ _ (by simp)]
    exact heap_alloc_new w _
  have kb1 : w1.heap[w.heap.size + 1]? = some (.cells #[.int .i64 lk, .string lx, .int .i64 lp, .slice ao ts.length c] 104 (0, 0)) := by
    rw [hb.block _ (by simp), Below.heap_alloc _ _ _ (by simp)]
    have := heap_alloc_new (w.alloc (.cells #[.slice A.ta g.terms.length A.tc, .slice A.na g.names.length A.nc, .slice A.ra g.rules.length A.rc] 25)) (.cells #[.int .i64 lk, .string lx, .int .i64 lp, .slice ao ts.length c] 104)
    simpa using this
  have kb2 : w1.heap[w.heap.size + 1 + 1]? = some (.cells #[.int .i64 0, .slice none 0 0] 31 (0, 0)) := by
    rw [hb.block _ (by simp)]
    have := heap_alloc_new ((w.alloc (.cells #[.slice A.ta g.terms.length A.tc, .slice A.na g.names.length A.nc, .slice A.ra g.rules.length A.rc] 25)).alloc (.cells #[.int .i64 lk, .string lx, .int .i64 lp, .slice ao ts.length c] 104)) (.cells #[.int .i64 0, .slice none 0 0] 31)
    simpa using this
  obtain ⟨p0, p1, p2, p3, _⟩ := cells_four kb1
  have EL : Hid (Gr.sym g.terms g.names ⟨lk, lx, lp⟩ = (Gr.rule g.terms g.names (⟨lk, lx, lp⟩, ts)).1) := by show _ = _; rfl
  generalize Gr.sym g.terms g.names ⟨lk, lx, lp⟩ = ls at *
  have HA : Hid (QInv w (w1.alloc (.cells #[.int .i64 ls, .slice none 0 0] 31)) g A w1.heap.size ls (.slice none 0 0) []) :=
    ⟨hb0.alloc hb0.size _, ⟨hz, by simp⟩, by rw [Below.heap_alloc _ _ _ (by omega)]; exact kb0, by rw [Below.heap_alloc _ _ _ (by omega)]; exact kb2, heap_alloc_new _ _, World.ownsRow_nil _ _ _ _⟩
  have hz1 : w.heap.size + 1 < w1.heap.size := by omega
  clear hb kb0 kb1 kb2 HL
  go_wp2_with fail
  go_loopw [16] (fun i wr => ∃ (q : Nat) (xo : Option Addr) (xc : Nat), q ≤ ts.length ∧ i = .int .i64 q ∧ Hid (QInv w wr g A w1.heap.size ls (.slice xo q xc) ((ts.take q).map (Gr.sym g.terms g.names)))) (fun i _ => ts.length - (intOf i).toNat)
  case atStart => exact ⟨0, none, 0, Nat.zero_le _, rfl, HA⟩
  case round =>
    obtain ⟨q, xo, xc, hq, rfl, hinv⟩ := hrel
    clear HA p0 p1 p2 p3
    obtain ⟨a0, a1, az0, az1⟩ := cells_two_z hinv.out.ab
    obtain ⟨r0, r1, rz0, rz1⟩ := cells_two_z hinv.out.rb
    obtain ⟨g0, g1, g2, gz0, gz1, gz2⟩ := cells_three_z hinv.out.gb
    have hlts := hinv.out.lt
    have hy0 : w.heap.size < wr.heap.size := by omega
    have hy1 : w1.heap.size < wr.heap.size := hlts.2
    by_cases hql : q < ts.length
    · obtain ⟨b, o, rfl, hb1, _, t0, t1, t2⟩ := HT.out q hql
      replace t0 := cell_later hinv.out.below t0
      replace t1 := cell_later hinv.out.below t1
      replace t2 := cell_later hinv.out.below t2
      have HK : Hid ((ts.take (q + 1)).map (Gr.sym g.terms g.names) = (ts.take q).map (Gr.sym g.terms g.names) ++ [Gr.sym g.terms g.names ts[q]]) := by show _ = _; rw [List.take_add_one, List.getElem?_eq_getElem hql, List.map_append]; rfl
      have HL : Hid _ := HS.out ts[q]
      have HQ : Hid (((ts.take q).map (Gr.sym g.terms g.names)).length = q) := by show _ = _; rw [List.length_map, List.length_take]; omega
      generalize ts[q] = y at *
      obtain ⟨yk, yx, yp⟩ := y
      simp only at t0 t1 t2 HL
      generalize (ts.take q).map (Gr.sym g.terms g.names) = done at *
      generalize Gr.sym g.terms g.names ⟨yk, yx, yp⟩ = ys at *
      have hown0 : ∀ W, OwnInts (w1.heap.size + 1) W (.slice xo q xc) done → W.ownsRow (w1.heap.size + 1) 3 1 (.slice xo q xc) q (done.map (.int .i64)) := fun W h => by have := h; unfold OwnInts at this; rw [HQ.out] at this; exact this
      have HO : Hid _ := hown0
      clear hown0
      go_wp2_with fail
      go_region_law
        (first
          | (go_simp; go_at_call 91; refine (HL.out _ ((hinv.out.later ((Below.refl _ wr).alloc (Nat.le_refl _) _)).drew.below)).mono ?_; rintro e w2 ⟨rfl, hb2⟩; have hinv2 : Hid (QInv w w2 g A w1.heap.size ls (.slice xo q xc) done) := (hinv.out.later ((Below.refl _ wr).alloc (Nat.le_refl _) _)).drew.later hb2; obtain ⟨d0, d1, dz0, dz1⟩ := cells_two_z hinv2.out.ab; have hlt2 := hinv2.out.lt)
          | (refine step_append_lies _ (by rfl) _ _ _ (by rfl) (w1.heap.size + 1) 3 i0 _ 1 8 Try.underlying29 HI.out.1 HI.out.2.1 HI.out.2.2.1 HI.out.2.2.2 rfl (by omega) (.slice xo q xc) q (done.map (.int .i64)) (by rfl) ((HO.out _ hinv2.out.own).alloc _) ⟨w2.heap.size, 0, none⟩ 1 1 [.int .i64 ys] (by rfl) (by rfl) (World.news_of_block (cs := #[.int .i64 ys]) (t := 3) (fr := (0, 0)) (heap_alloc_new w2 _)) (by simp [Value.oneCell']) (by omega) (by unfold maxLen; omega) (by omega) (by simp; omega) (w2.heap.size + 1) (by simp) ?_; intro ga cap w3 hown3 hgrow hat hlt1; obtain ⟨q0, q1, qz0, qz1⟩ := cells_two_z (((hinv2.out.later ((Below.refl _ w2).alloc (Nat.le_refl _) _)).grown hgrow _ (Nat.le_refl _)).trans (hinv2.out.later ((Below.refl _ w2).alloc (Nat.le_refl _) _)).ab)))
      all_goals
        have hpush : Hid (QInv w (w3.setCell ⟨w1.heap.size, 1, none⟩ (.slice (some ⟨ga, 0, none⟩) (q + 1) cap)) g A w1.heap.size ls (.slice (some ⟨ga, 0, none⟩) (q + 1) cap) ((ts.take (q + 1)).map (Gr.sym g.terms g.names))) := by
          rw [HK.out]
          refine (hinv2.out.later ((Below.refl _ w2).alloc (Nat.le_refl _) _)).push ys hgrow ?_
          unfold OwnInts
          rw [List.length_append, HQ.out, List.map_append]
          exact hown3
        clear hgrow hown3 a0 a1 az0 az1 r0 r1 rz0 rz1 g0 g1 g2 gz0 gz1 gz2 d0 d1 dz0 dz1 q0 q1 qz0 qz1 t0 t1 t2
        go_wp2_with fail
        go_roundw
        case rel => exact ⟨q + 1, _, _, by omega, by go_num, hpush⟩
        case measure => simp [intOf]; omega
    · have HK : Hid ((ts.take q).map (Gr.sym g.terms g.names) = (Gr.rule g.terms g.names (⟨lk, lx, lp⟩, ts)).2) := by show _ = _; rw [List.take_of_length_le (by omega)]; rfl
      have e : q = ts.length := by omega
      have HQ : Hid (q = (Gr.rule g.terms g.names (⟨lk, lx, lp⟩, ts)).2.length) := by show _ = _; rw [show (Gr.rule g.terms g.names (⟨lk, lx, lp⟩, ts)).2 = ts.map (Gr.sym g.terms g.names) from rfl, List.length_map]; exact e
      clear e
      go_wp2_with fail
      refine bodyPost_ret (v := .agg #[.int .i64 ls, .slice xo q xc]) (by simp [results, Try.results74, go_sem, r0, r1]) rfl ⟨xo, xc, ?_, ?_, ?_⟩
      · rw [EL.out, ← HQ.out]
      · have := hinv.out.own
        rw [HK.out, HQ.out] at this
        have hz1 : w.heap.size + 1 + 1 < w1.heap.size + 1 := by omega
        exact ownsRow_from (ownsRow_setCell_below (ownsRow_setCell_below this hz1 _) hz1 _) (by omega)
      · have := hinv.out.below
        exact (this.setCell (by show w.heap.size ≤ w.heap.size + 1 + 1; omega) _).setCell (by show w.heap.size ≤ w.heap.size + 1 + 1; omega) _
end Go.Proofs.Ytdocbgfpnaiijaa
