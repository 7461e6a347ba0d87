/-
  Layer 2 (read): altOf: an alternative of one's own.
-/
import Derived.Test.YtimjopaedfefmaaReadTake
namespace Go.Proofs.Ytimjopaedfefmaa
open Go.RowKit

/-- what holds of memory while altOf goes: its result's block R, its own variable's block A, the row -/
structure AInv (w wr : World) (R A : Nat) (l : Rd.Tk) (v : Value) (done : List Rd.Tk) : Prop where
  below : Below w.heap.size w wr
  lt : w.heap.size ≤ R ∧ R < A ∧ A < wr.heap.size
  rb : wr.heap[R]? = some (.cells #[.int .i64 0, .string ⟨#[]⟩, .int .i64 0, .slice none 0 0] 80 (0, 0))
  ab : wr.heap[A]? = some (.cells #[.int .i64 l.kind, .string l.text, .int .i64 l.pos, v] 80 (0, 0))
  own : wr.ownsRow (A + 1) 37 3 v done.length (tksCells done)

theorem AInv.later {w wr w1 : World} {R A : Nat} {l : Rd.Tk} {v : Value} {done : List Rd.Tk} (h : AInv w wr R A l v done) (hb : Below wr.heap.size wr w1) : AInv w w1 R A l v done where
  below := h.below.trans (hb.mono h.below.size)
  lt := ⟨h.lt.1, h.lt.2.1, Nat.lt_of_lt_of_le h.lt.2.2 hb.size⟩
  rb := by rw [hb.block R (by have := h.lt; omega)]; exact h.rb
  ab := by rw [hb.block A h.lt.2.2]; exact h.ab
  own := ownsRow_below h.own hb

theorem AInv.drew {w wr : World} {R A : Nat} {l : Rd.Tk} {v : Value} {done : List Rd.Tk} (h : AInv w wr R A l v done) : AInv w wr.drew R A l v done := ⟨h.below.drew, h.lt, h.rb, h.ab, h.own⟩

theorem AInv.grown {w wr w1 : World} {R A : Nat} {l : Rd.Tk} {v : Value} {done : List Rd.Tk} (h : AInv w wr R A l v done) (hg : wr.grownBy w1 v.ownBlock) :
    w1.heap[A]? = some (.cells #[.int .i64 l.kind, .string l.text, .int .i64 l.pos, v] 80 (0, 0)) := by
  rw [hg.block A h.lt.2.2 (fun e => by have := (h.own.lt _ e.symm).1; omega)]; exact h.ab

theorem AInv.push {w wr w1 : World} {R A : Nat} {l : Rd.Tk} {v v' : Value} {done : List Rd.Tk} (h : AInv w wr R A l v done) (t : Rd.Tk) (hg : wr.grownBy w1 v.ownBlock)
    (ho : w1.ownsRow (A + 1) 37 3 v' (done.length + 1) (tksCells done ++ tkCells t)) : AInv w (w1.setCell ⟨A, 3, none⟩ v') R A l v' (done ++ [t]) where
  below := (h.below.grown hg h.below.size (fun k hk => by have := (h.own.lt k hk).1; have := h.lt; omega)).setCell (by have := h.lt; show w.heap.size ≤ A; omega) _
  lt := ⟨h.lt.1, h.lt.2.1, by rw [size_setCell]; exact Nat.lt_of_lt_of_le h.lt.2.2 hg.size⟩
  rb := by
    rw [Below.heap_setCell _ _ _ _ (by show R ≠ A; have := h.lt; omega), hg.block R (by have := h.lt; omega) (fun e => by have := (h.own.lt _ e.symm).1; have := h.lt; omega)]
    exact h.rb
  ab := by simp [World.setCell, Array.getElem?_modify, h.grown hg]
  own := by
    rw [List.length_append, tksCells_snoc]
    exact ownsRow_setCell_below ho (by exact Nat.lt_succ_self _) _

theorem Try.infoTk : (Try.prog.info? 37).map (fun i => (i.zero, i.size, i.bytes)) = some (some (.agg #[.int .i64 0, .string ⟨#[]⟩, .int .i64 0]), 3, 32) := by kernel_rfl

set_option maxHeartbeats 1600000 in
theorem altOf_any (l : Rd.Tk) (ts : List Rd.Tk) (ao : Option Addr) (c : Nat) (w : World) (hl : ts.length ≤ 8) (hlt : l.text.size ≤ 281474976710656) (hx : ∀ t ∈ ts, t.text.size ≤ 281474976710656) (h : TksAt w.heap.size w ao ts) :
    Calls Try.prog 100 #[tkVal l, .slice ao ts.length c] w fun e w' => ∃ xo xn xc, e = .returned (.agg #[.int .i64 l.kind, .string l.text, .int .i64 l.pos, .slice xo xn xc]) ∧ Below w.heap.size w w' ∧
      w'.ownsRow w.heap.size 37 3 (.slice xo xn xc) ts.length (tksCells ts) := by
  have HT : Hid (TksAt w.heap.size w ao ts) := h
  have HX : Hid _ := hx
  clear h hx
  have HL : Hid _ := cloneOf_any l
  obtain ⟨i0, hi, hz0, hz1, hz2⟩ := info_parts Try.infoTk
  have HI : Hid (Try.prog.info? 37 = some i0 ∧ i0.zero = some (.agg #[.int .i64 0, .string ⟨#[]⟩, .int .i64 0]) ∧ i0.size = 3 ∧ i0.bytes = 32) := ⟨hi, hz0, hz1, hz2⟩
  clear hi hz0 hz1 hz2
  obtain ⟨k, x, p⟩ := l
  unfold tkVal at *
  simp only at hlt HL ⊢
  go_enter Try.func100, Try.ntmps100
  go_wp2_with fail
  refine (HL.out _ hlt).mono ?_
  rintro e w1 ⟨rfl, hb⟩
  have hz : w.heap.size + 1 < w1.heap.size := by have := hb.size; simp at this; omega
  have hb0 : Below w.heap.size w w1 := (((Below.refl _ w).alloc (Nat.le_refl _) _).alloc (by simp) _).trans (hb.mono (by simp; omega))
  have hrb : w1.heap[w.heap.size + 1]? = some (.cells #[.int .i64 0, .string ⟨#[]⟩, .int .i64 0, .slice none 0 0] 80 (0, 0)) := by
    rw [hb.block _ (by simp)]
    have := heap_alloc_new (w.alloc (.cells #[.int .i64 k, .string x, .int .i64 p] 37)) (.cells #[.int .i64 0, .string ⟨#[]⟩, .int .i64 0, .slice none 0 0] 80)
    simpa using this
  have HA : Hid (AInv w (w1.alloc (.cells #[.int .i64 k, .string x, .int .i64 p, .slice none 0 0] 80)) (w.heap.size + 1) w1.heap.size ⟨k, x, p⟩ (.slice none 0 0) []) :=
    ⟨hb0.alloc hb0.size _, ⟨by omega, by omega, by simp⟩, by rw [Below.heap_alloc _ _ _ (by omega)]; exact hrb, heap_alloc_new _ _, World.ownsRow_nil _ _ _ _⟩
  clear hb hrb HL
  go_wp2_with fail
  go_loopw [13] (fun i wr => ∃ (q : Nat) (xo : Option Addr) (xn xc : Nat), q ≤ ts.length ∧ i = .int .i64 q ∧ Hid (AInv w wr (w.heap.size + 1) w1.heap.size ⟨k, x, p⟩ (.slice xo xn xc) (ts.take q))) (fun i _ => ts.length - (intOf i).toNat)
  case atStart => exact ⟨0, none, 0, 0, Nat.zero_le _, rfl, HA⟩
  case round =>
    obtain ⟨q, xo, xn, xc, hq, rfl, hinv⟩ := hrel
    clear HA
    obtain ⟨a0, a1, a2, a3, az0, az1, az2, az3⟩ := cells_four hinv.out.ab
    obtain ⟨r0, r1, r2, r3, rz0, rz1, rz2, rz3⟩ := cells_four hinv.out.rb
    have hlts := hinv.out.lt
    by_cases hql : q < ts.length
    · obtain ⟨b, o, rfl, hb1, _, t0, t1, t2⟩ := HT.out q hql
      replace t0 := cell_later hinv.out.below t0
      replace t1 := cell_later hinv.out.below t1
      replace t2 := cell_later hinv.out.below t2
      have HK : Hid (ts.take (q + 1) = ts.take q ++ [ts[q]]) := by show _ = _; rw [List.take_add_one, List.getElem?_eq_getElem hql]; rfl
      have hsz : (ts[q]).text.size ≤ 281474976710656 := HX.out _ (List.getElem_mem hql)
      have HL : Hid _ := cloneOf_any ts[q]
      have HQ : Hid ((ts.take q).length = q) := by show _ = _; rw [List.length_take]; omega
      generalize ts[q] = y at *
      obtain ⟨yk, yx, yp⟩ := y
      unfold tkVal at *
      simp only at t0 t1 t2 hsz HL
      have h8 : (ts.take q).length ≤ 8 := by rw [HQ.out]; omega
      go_wp2_with fail
      go_region_law
        (first
          | (go_simp; go_at_call 102; refine (HL.out _ hsz).mono ?_; rintro e w2 ⟨rfl, hb2⟩; have hinv2 : Hid (AInv w w2 (w.heap.size + 1) w1.heap.size ⟨k, x, p⟩ (.slice xo xn xc) (ts.take q)) := (hinv.out.later ((Below.refl _ wr).alloc (Nat.le_refl _) _)).drew.later hb2; obtain ⟨d0, d1, d2, d3, dz0, dz1, dz2, dz3⟩ := cells_four hinv2.out.ab; have hlt2 := hinv2.out.lt)
          | (refine step_append_lies _ (by rfl) _ _ _ (by rfl) (w1.heap.size + 1) 37 i0 _ 3 32 Try.underlying32 HI.out.1 HI.out.2.1 HI.out.2.2.1 HI.out.2.2.2 rfl (by omega) (.slice xo xn xc) (ts.take q).length (tksCells (ts.take q)) (by rfl) (hinv2.out.own.alloc _) ⟨w2.heap.size, 0, none⟩ 1 1 [.int .i64 yk, .string yx, .int .i64 yp] (by rfl) (by rfl) (World.news_of_block (cs := #[.int .i64 yk, .string yx, .int .i64 yp]) (t := 37) (fr := (0, 0)) (heap_alloc_new w2 _)) (by simp [Value.oneCell']) (by omega) (by unfold maxLen; omega) (by omega) (by simp; omega) (w2.heap.size + 1) (by simp) ?_; intro g cap w3 hown3 hgrow hat hlt1; obtain ⟨q0, q1, q2, q3, qz0, qz1, qz2, qz3⟩ := cells_four ((hinv2.out.later ((Below.refl _ w2).alloc (Nat.le_refl _) _)).grown hgrow)))
      all_goals
        have hpush : Hid (AInv w (w3.setCell ⟨w1.heap.size, 3, none⟩ (.slice (some ⟨g, 0, none⟩) (q + 1) cap)) (w.heap.size + 1) w1.heap.size ⟨k, x, p⟩ (.slice (some ⟨g, 0, none⟩) (q + 1) cap) (ts.take (q + 1))) := by
          have ho := hown3
          rw [HQ.out] at ho
          rw [HK.out]; exact (hinv2.out.later ((Below.refl _ w2).alloc (Nat.le_refl _) _)).push ⟨yk, yx, yp⟩ hgrow (by rw [HQ.out]; exact ho)
        clear hgrow hown3 a0 a1 a2 a3 az0 az1 az2 az3 r0 r1 r2 r3 rz0 rz1 rz2 rz3 d0 d1 d2 d3 dz0 dz1 dz2 dz3 q0 q1 q2 q3 qz0 qz1 qz2 qz3 t0 t1 t2
        go_wp2_with fail
        go_roundw
        case rel => exact ⟨q + 1, _, _, _, by omega, by go_num, hpush⟩
        case measure => simp [intOf]; omega
    · have HK : Hid (ts.take q = ts) := by show _ = _; rw [List.take_of_length_le (by omega)]
      go_wp2_with fail
      refine bodyPost_ret (v := .agg #[.int .i64 k, .string x, .int .i64 p, .slice xo xn xc]) (by simp [results, Try.results100, go_sem, r0, r1, r2, r3]) rfl ⟨xo, xn, xc, rfl, ?_, ?_⟩
      · have := hinv.out.below
        exact ((((this.setCell (by exact Nat.le_succ _) _).setCell (by exact Nat.le_succ _) _).setCell (by exact Nat.le_succ _) _).setCell (by exact Nat.le_succ _) _)
      · have := hinv.out.own
        rw [HK.out] at this
        have hz1 : w.heap.size + 1 < w1.heap.size + 1 := by omega
        exact ownsRow_from (ownsRow_setCell_below (ownsRow_setCell_below (ownsRow_setCell_below (ownsRow_setCell_below this hz1 _) hz1 _) hz1 _) hz1 _) (by omega)
end Go.Proofs.Ytimjopaedfefmaa
