/-
  Layer 2 (read): the reader in memory; take: the next token, if it is of one of some kinds.
-/
import Derived.Test.YtimjopaedfefmaaReadSmall
namespace Go.Proofs.Ytimjopaedfefmaa
open Go.RowKit

/-- the reader's block, its tokens, its alternatives -/
structure RS (w : World) (B : Nat) (ao : Option Addr) (c : Nat) (ts : List Rd.Tk) (en : Int) (k : Nat) (xo : Option Addr) (xc : Nat) (acc : List Rd.Al) : Prop where
  blk : w.heap[B]? = some (.cells #[.slice ao ts.length c, .int .i64 en, .int .i64 k, .slice xo acc.length xc] 101 (0, 0))
  toks : TksAt B w ao ts
  own : AlsAt (B + 1) w (.slice xo acc.length xc) acc
  cap : ts.length ≤ c ∧ c ≤ maxLen

theorem cells_four {w : World} {b : Nat} {x y z u : Value} {t : TypeId} (h : w.heap[b]? = some (.cells #[x, y, z, u] t (0, 0))) :
    w.cell? ⟨b, 0, none⟩ = some x ∧ w.cell? ⟨b, 1, none⟩ = some y ∧ w.cell? ⟨b, 2, none⟩ = some z ∧ w.cell? ⟨b, 3, none⟩ = some u ∧
    w.frozen? ⟨b, 0, none⟩ = false ∧ w.frozen? ⟨b, 1, none⟩ = false ∧ w.frozen? ⟨b, 2, none⟩ = false ∧ w.frozen? ⟨b, 3, none⟩ = false := by
  simp [World.cell?, World.frozen?, h]

theorem RS.lt {w : World} {B : Nat} {ao : Option Addr} {c : Nat} {ts : List Rd.Tk} {en : Int} {k : Nat} {xo : Option Addr} {xc : Nat} {acc : List Rd.Al}
    (h : RS w B ao c ts en k xo xc acc) : B < w.heap.size := (Array.getElem?_eq_some_iff.1 h.blk).1

theorem RS.below {w w' : World} {B : Nat} {ao : Option Addr} {c : Nat} {ts : List Rd.Tk} {en : Int} {k : Nat} {xo : Option Addr} {xc : Nat} {acc : List Rd.Al}
    (h : RS w B ao c ts en k xo xc acc) (hb : Below w.heap.size w w') : RS w' B ao c ts en k xo xc acc where
  blk := by rw [hb.block B h.lt]; exact h.blk
  toks := h.toks.later (hb.mono (Nat.le_of_lt h.lt))
  own := h.own.below hb
  cap := h.cap

theorem RS.step {w : World} {B : Nat} {ao : Option Addr} {c : Nat} {ts : List Rd.Tk} {en : Int} {k : Nat} {xo : Option Addr} {xc : Nat} {acc : List Rd.Al}
    (h : RS w B ao c ts en k xo xc acc) (k' : Nat) : RS (w.setCell ⟨B, 2, none⟩ (.int .i64 k')) B ao c ts en k' xo xc acc where
  blk := by simp [World.setCell, Array.getElem?_modify, h.blk]
  toks := h.toks.later ((Below.refl _ w).setCell (by exact Nat.le_refl _) _)
  own := h.own.setCell (by exact Nat.lt_succ_self _) _
  cap := h.cap

theorem Below.setBoth {N : Nat} {w w' : World} (h : Below N w w') (a : Addr) (v : Value) : Below N (w.setCell a v) (w'.setCell a v) where
  os := h.os
  tape := h.tape
  output := h.output
  size := by have := h.size; simpa [World.setCell] using this
  block := fun k hk => by simp [World.setCell, Array.getElem?_modify, h.block k hk]

theorem size_setCell (w : World) (a : Addr) (v : Value) : (w.setCell a v).heap.size = w.heap.size := by simp [World.setCell]

theorem grown_of_below {w w' : World} {r : Option Nat} (h : Below w.heap.size w w') : w.grownBy w' r := ⟨h.os, h.tape, h.output, h.size, fun k hk _ => h.block k hk⟩
theorem grown_set (w : World) (B o : Nat) (v : Value) : w.grownBy (w.setCell ⟨B, o, none⟩ v) (some B) :=
  ⟨rfl, rfl, rfl, by simp [World.setCell], fun k _ hne => Below.heap_setCell _ _ _ _ (fun e => hne (by rw [e]))⟩
theorem grown_trans {a b c : World} {r : Option Nat} (h : a.grownBy b r) (h' : b.grownBy c r) : a.grownBy c r :=
  ⟨h'.os.trans h.os, h'.tape.trans h.tape, h'.output.trans h.output, Nat.le_trans h.size h'.size, fun k hk hne => (h'.block k (Nat.lt_of_lt_of_le hk h.size) hne).trans (h.block k hk hne)⟩
theorem below_of_grown {w w' : World} {B : Nat} (h : w.grownBy w' (some B)) (hB : B ≤ w.heap.size) : Below B w w' :=
  ⟨h.os, h.tape, h.output, h.size, fun k hk => h.block k (Nat.lt_of_lt_of_le hk hB) (fun e => by cases e; exact Nat.lt_irrefl _ hk)⟩

/-- what take comes to -/
def TakePost (w : World) (B : Nat) (ao : Option Addr) (c : Nat) (ts : List Rd.Tk) (en : Int) (k : Nat) (xo : Option Addr) (xc : Nat) (acc : List Rd.Al) (ks : List Int) (e : Ending) (w' : World) : Prop :=
  w.grownBy w' (some B) ∧ (((ts.length ≤ k ∧ e = thrown (12, en)) ∨ (∃ h : k < ts.length, ks.contains ts[k].kind = false ∧ e = thrown (12, ts[k].pos))) ∨
    (∃ h : k < ts.length, ks.contains ts[k].kind = true ∧ e = .returned (tkVal ts[k]) ∧ RS w' B ao c ts en (k + 1) xo xc acc))

set_option maxHeartbeats 1600000 in
theorem take_any (ks : List Int) (hks : ks.length ≤ 2) (g : Nat) (w : World) (B : Nat) (ao : Option Addr) (c : Nat) (ts : List Rd.Tk) (en : Int) (k : Nat) (xo : Option Addr) (xc : Nat) (acc : List Rd.Al)
    (hl : ts.length ≤ 2000) (hk : k ≤ ts.length) (h : RS w B ao c ts en k xo xc acc) (hc : ∀ i (h : i < ks.length), w.cell? ⟨g, i, none⟩ = some (.int .i64 ks[i])) :
    Calls Try.prog 95 #[.pointer (some ⟨B, 0, none⟩), .slice (some ⟨g, 0, none⟩) ks.length ks.length] w (TakePost w B ao c ts en k xo xc acc ks) := by
  obtain ⟨r0, r1, r2, r3, z0, z1, z2, z3⟩ := cells_four h.blk
  have hlt := h.lt
  have HC : Hid _ := hc
  have HR : Hid _ := h
  clear hc h
  by_cases hkl : k < ts.length
  · obtain ⟨b, o, rfl, hb0, hb1, a0, a1, a2⟩ := HR.out.toks k hkl
    have HT : Hid (∃ t, t = ts[k]) := ⟨_, rfl⟩
    have hne : ((k : Int) == (ts.length : Int)) = false := beq_eq_false_iff_ne.2 (by omega)
    have hneb : b ≠ B := by omega
    generalize hx : ts[k] = x at a0 a1 a2
    have HX : Hid _ := hx
    clear hx
    obtain ⟨kd, tx, ps⟩ := x
    simp only at a0 a1 a2
    have HB : Hid (∀ n, Below w.heap.size w (((w.alloc (Obj.cells #[Value.int IntKind.i64 0, Value.string { data := #[] }, Value.int IntKind.i64 0] 37)).drewN n).alloc (Obj.cells #[Value.int IntKind.i64 kd, Value.string tx, Value.int IntKind.i64 ps] 37))) :=
      fun n => (below_drewN ((Below.refl _ w).alloc (Nat.le_refl _) _) n).alloc (by simp) _
    cases hin : ks.contains kd
    · have P : Hid (∀ w', Below w.heap.size w w' → TakePost w B (some ⟨b, o, none⟩) c ts en k xo xc acc ks (thrown (12, ps)) w') := fun w' hb =>
        ⟨grown_of_below hb, .inl (.inr ⟨hkl, by rw [HX.out]; exact hin, by rw [HX.out]⟩)⟩
      clear HX
      go_enter Try.func95, Try.ntmps95
      go_wp2_with fail
      go_quiet (fail)
      go_wp2_with fail
      go_region
      go_wp2_with fail
      refine (contains_is _ ks hks g kd _ (fun i hi => cell_later (HB.out (nq + 1)) (HC.out i hi)) hin).mono ?_
      rintro e w1 ⟨rfl, rfl⟩
      go_wp2_with (go_at_call 98; refine (rthrow_any _ _ _).mono ?_; rintro e w2 ⟨rfl, rfl⟩)
      exact ⟨rfl, P.out _ (HB.out _)⟩
    · go_enter Try.func95, Try.ntmps95
      go_wp2_with fail
      go_quiet (fail)
      go_wp2_with fail
      go_region
      go_wp2_with fail
      refine (contains_is _ ks hks g kd _ (fun i hi => cell_later (HB.out (nq + 1)) (HC.out i hi)) hin).mono ?_
      rintro e w1 ⟨rfl, rfl⟩
      go_wp2_with fail
      refine bodyPost_ret (v := .agg #[.int .i64 kd, .string tx, .int .i64 ps]) (by simp [results, Try.results95, go_sem]) rfl ?_
      have hbb : Below w.heap.size (w.setCell ⟨B, 2, none⟩ (.int .i64 (k + 1 : Nat))) ((((((w.alloc (Obj.cells #[Value.int IntKind.i64 0, Value.string { data := #[] }, Value.int IntKind.i64 0] 37)).drewN (nq + 1)).setCell ⟨B, 2, none⟩ (.int .i64 (k + 1 : Nat))).setCell ⟨w.heap.size, 0, none⟩ (.int .i64 kd)).setCell ⟨w.heap.size, 1, none⟩ (.string tx)).setCell ⟨w.heap.size, 2, none⟩ (.int .i64 ps)) :=
        (((Below.setBoth (below_drewN ((Below.refl _ w).alloc (Nat.le_refl _) _) _) _ _).setCell (by exact Nat.le_refl _) _).setCell (by exact Nat.le_refl _) _).setCell (by exact Nat.le_refl _) _
      rw [show ((k : Int) + 1) = ((k + 1 : Nat) : Int) from by omega]
      refine ⟨?_, .inr ⟨hkl, by rw [HX.out]; exact hin, by rw [HX.out]; rfl, ?_⟩⟩
      · exact grown_trans (grown_set w B 2 _) (grown_trans (grown_of_below (by rw [size_setCell]; exact hbb)) (grown_of_below ((Below.refl _ _).alloc (Nat.le_refl _) _)))
      · have := (HR.out.step (k + 1)).below (w' := _) (by rw [size_setCell]; exact hbb)
        exact this.below ((Below.refl _ _).alloc (Nat.le_refl _) _)
  · have e : k = ts.length := by omega
    subst e
    have hne : ((ts.length : Int) == (ts.length : Int)) = true := by simp
    have P : Hid (∀ w', Below w.heap.size w w' → TakePost w B ao c ts en ts.length xo xc acc ks (thrown (12, en)) w') := fun w' hb =>
        ⟨grown_of_below hb, .inl (.inl ⟨Nat.le_refl _, rfl⟩)⟩
    go_enter Try.func95, Try.ntmps95
    go_wp2_with fail
    go_quiet (fail)
    go_wp2_with (go_at_call 98; refine (rthrow_any _ _ _).mono ?_; rintro e w2 ⟨rfl, rfl⟩)
    exact ⟨rfl, P.out _ (below_drewN ((Below.refl _ w).alloc (Nat.le_refl _) _) _)⟩
end Go.Proofs.Ytimjopaedfefmaa
