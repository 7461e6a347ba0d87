/-
  Layer 2 (read): Alts: the alternatives of any tokens, or the fault.
-/
import Derived.Test.YtimjopaedfefmaaReadDefs
namespace Go.Proofs.Ytimjopaedfefmaa
open Go.RowKit

theorem rassert_fault (x : Value) (w : World) : (Instr.typeAssert (.iface 29 x) 20 29 true).run Try.prog w = .ok (.tuple #[x, .bool true]) w := by kernel_rfl

set_option maxHeartbeats 400000 in
theorem rfaultOf_any (a b : Int) (w : World) :
    Calls Try.prog 82 #[.iface 29 (.agg #[.int .i64 a, .int .i64 b])] w fun e w' => e = .returned (.agg #[.int .i64 a, .int .i64 b]) ∧ Below w.heap.size w w' := by
  have hta := rassert_fault (.agg #[.int .i64 a, .int .i64 b])
  go_enter Try.func82, Try.ntmps82
  go_wp2
  refine bodyPost_ret (v := .agg #[.int .i64 a, .int .i64 b]) (by simp [results, Try.results82, go_sem]) rfl ⟨rfl, ?_⟩
  exact ((Below.refl _ w).alloc (Nat.le_refl _) _).alloc (by simp) _

set_option maxHeartbeats 800000 in
theorem rcatch_panicking (B : Nat) (v0 v1 v2 : Value) (a b : Int) (older : List PanicEntry) (w : World)
    (hB : w.cell? ⟨B, 0, none⟩ = some v0) (hBz : w.frozen? ⟨B, 0, none⟩ = false)
    (hC : w.cell? ⟨B + 1, 0, none⟩ = some v1) (hCz : w.frozen? ⟨B + 1, 0, none⟩ = false) (hD : w.cell? ⟨B + 1, 1, none⟩ = some v2) (hDz : w.frozen? ⟨B + 1, 1, none⟩ = false) :
    CallsD Try.prog 81 #[.pointer (some ⟨B, 0, none⟩), .pointer (some ⟨B + 1, 0, none⟩)] (.panicking ({ v := .iface 29 (.agg #[.int .i64 a, .int .i64 b]), recovered := false } :: older)) w fun e u' w' =>
      e = .returned (.tuple #[]) ∧ u' = .panicking ({ v := .iface 29 (.agg #[.int .i64 a, .int .i64 b]), recovered := true } :: older) ∧
      ∃ w1, Below w.heap.size w w1 ∧ w' = ((w1.setCell ⟨B, 0, none⟩ (.slice none 0 0)).setCell ⟨B + 1, 0, none⟩ (.int .i64 a)).setCell ⟨B + 1, 1, none⟩ (.int .i64 b) := by
  refine callsD_of_wpS Try.func81 rfl fun c₀ cs hu => ?_
  apply wpS_seq
  apply wpS_region
  simp [wpOpsS, go_sem, recoverD, hu, Try.ntmps81, Exit.thenS]
  apply wpS_seq
  apply wpS_region
  simp [wpOpsS, go_sem, Exit.thenS]
  refine wpS_cond (t := true) (by simp [Act.eval, Array.replicate]) ?_
  simp only [if_true]
  refine wpS_of_wp ?_
  have ht : (#[Value.pointer (some ⟨B, 0, none⟩), Value.pointer (some ⟨B + 1, 0, none⟩)] ++
          ((((Array.replicate 6 undef).setIfInBounds 1 (Value.iface 29 (Value.agg #[Value.int IntKind.i64 a, Value.int IntKind.i64 b]))).setIfInBounds
                    0 (Value.iface 29 (Value.agg #[Value.int IntKind.i64 a, Value.int IntKind.i64 b]))).setIfInBounds
                2 (Value.iface 29 (Value.agg #[Value.int IntKind.i64 a, Value.int IntKind.i64 b]))).setIfInBounds
            3 (Value.bool true)) = #[Value.pointer (some ⟨B, 0, none⟩), Value.pointer (some ⟨B + 1, 0, none⟩), .iface 29 (.agg #[.int .i64 a, .int .i64 b]), .iface 29 (.agg #[.int .i64 a, .int .i64 b]), .iface 29 (.agg #[.int .i64 a, .int .i64 b]), .bool true, undef, undef] := rfl
  rw [ht]
  clear ht hu
  go_wp2_with fail
  refine (rfaultOf_any a b _).mono ?_
  rintro e w1 ⟨rfl, hb⟩
  have c1 := cell_later hb hB
  have c2 := cell_later hb hC
  have c3 := cell_later hb hD
  have f1 : w1.frozen? ⟨B, 0, none⟩ = false := (hb.frozen (World.block_lt_of_cell? _ _ hB)).trans hBz
  have f2 : w1.frozen? ⟨B + 1, 0, none⟩ = false := (hb.frozen (World.block_lt_of_cell? _ _ hC)).trans hCz
  have f3 : w1.frozen? ⟨B + 1, 1, none⟩ = false := (hb.frozen (World.block_lt_of_cell? _ _ hD)).trans hDz
  clear hB hC hD hBz hCz hDz
  go_wp2
  simp [bodyPostS, results, Try.results81]
  exact ⟨w1, hb, rfl⟩

set_option maxHeartbeats 800000 in
theorem rcatch_idle (p q : Addr) (w : World) :
    CallsD Try.prog 81 #[.pointer (some p), .pointer (some q)] .returning w fun e u' w' => e = .returned (.tuple #[]) ∧ u' = .returning ∧ w' = w := by
  refine callsD_of_wpS Try.func81 rfl fun c₀ cs hu => ?_
  apply wpS_seq
  apply wpS_region
  simp [wpOpsS, go_sem, recoverD, hu, Try.ntmps81, Exit.thenS]
  apply wpS_seq
  apply wpS_region
  simp [wpOpsS, go_sem, Exit.thenS]
  refine wpS_cond (t := false) (by simp [Act.eval, Array.replicate]) ?_
  simp only [Bool.false_eq_true, if_false]
  refine wpS_of_wp (wp_skip ?_)
  cases c₀
  simp_all [bodyPostS, results, Try.results81]


/-- what Alts comes to -/
def AltsPost (ts : List Rd.Tk) (en : Int) (w : World) (e : Ending) (w' : World) : Prop :=
  Below w.heap.size w w' ∧ ∃ v, e = .returned (.tuple #[v, .agg #[.int .i64 (Rd.altsG ts en).1, .int .i64 (Rd.altsG ts en).2.1]]) ∧ AlsAt w.heap.size w' v (Rd.altsG ts en).2.2

set_option maxHeartbeats 1600000 in
theorem alts_any (ao : Option Addr) (c : Nat) (ts : List Rd.Tk) (en : Int) (w : World) (hl : ts.length ≤ 2000) (hx : ∀ t ∈ ts, t.text.size ≤ 281474976710656) (hc : ts.length ≤ c ∧ c ≤ maxLen) (h : TksAt w.heap.size w ao ts) :
    Calls Try.prog 61 #[.slice ao ts.length c, .int .i64 en] w (AltsPost ts en w) := by
  have hmf : ∀ (fn : Fn) (first cap : Array Value) (w : World), (Instr.makeFunc fn first cap).run Try.prog w = .ok (.func fn first cap) w := fun _ _ _ _ => rfl
  have HX : Hid _ := hx
  have HT : Hid (TksAt w.heap.size w ao ts) := h
  have HC : Hid _ := hc
  clear hx h hc
  go_enter_defers Try.func61, Try.ntmps61
  go_wp2_with fail
  have H3 : RS (((w.alloc (Obj.cells #[Value.slice none 0 0] 60)).alloc (Obj.cells #[Value.int IntKind.i64 0, Value.int IntKind.i64 0] 29)).alloc (Obj.cells #[Value.slice ao ts.length c, Value.int IntKind.i64 en, Value.int IntKind.i64 0, Value.slice none 0 0] 101)) (w.heap.size + 1 + 1) ao c ts en 0 none 0 [] := by
    refine ⟨?_, ?_, AlsAt.nil _ _, HC.out⟩
    · have := heap_alloc_new ((w.alloc (Obj.cells #[Value.slice none 0 0] 60)).alloc (Obj.cells #[Value.int IntKind.i64 0, Value.int IntKind.i64 0] 29)) (Obj.cells #[Value.slice ao ts.length c, Value.int IntKind.i64 en, Value.int IntKind.i64 0, Value.slice none 0 0] 101)
      simpa using this
    · exact (HT.out.later ((((Below.refl _ w).alloc (Nat.le_refl _) _).alloc (by simp) _).alloc (by simp; omega) _)).mono (by omega)
  refine (definitions_any _ (w.heap.size + 1 + 1) ao c ts en none 0 hl HX.out H3).mono ?_
  rintro e w1 ⟨hb, hcase⟩
  have c0 : w1.cell? ⟨w.heap.size, 0, none⟩ = some (.slice none 0 0) := (hb.cell (by simp; omega)).trans (by simp [go_sem])
  have c1 : w1.cell? ⟨w.heap.size + 1, 0, none⟩ = some (.int .i64 0) := (hb.cell (by simp)).trans (by simp [go_sem])
  have c2 : w1.cell? ⟨w.heap.size + 1, 1, none⟩ = some (.int .i64 0) := (hb.cell (by simp)).trans (by simp [go_sem])
  have f0 : w1.frozen? ⟨w.heap.size, 0, none⟩ = false := (hb.frozen (by simp; omega)).trans (by simp [go_sem])
  have f1 : w1.frozen? ⟨w.heap.size + 1, 0, none⟩ = false := (hb.frozen (by simp)).trans (by simp [go_sem])
  have f2 : w1.frozen? ⟨w.heap.size + 1, 1, none⟩ = false := (hb.frozen (by simp)).trans (by simp [go_sem])
  have hz : w.heap.size + 1 < w1.heap.size := by have := hb.size; simp at this; omega
  have hb0 : Below w.heap.size w w1 := ((((Below.refl _ w).alloc (Nat.le_refl _) _).alloc (by simp) _).alloc (by simp; omega) _).trans (hb.mono (by omega))
  clear hb H3 HT HC HX
  rcases hcase with ⟨⟨n, a⟩, HA, rfl⟩ | ⟨acc, xo, xc, ha, hrs, rfl, HA⟩
  · have HG2 : Hid (Rd.altsG ts en = (n, a, [])) := Rd.altsG_err HA
    clear HA
    unfold thrown
    go_wp2
    refine leaves_cons (f := 81) (args := #[.pointer (some ⟨w.heap.size, 0, none⟩), .pointer (some ⟨w.heap.size + 1, 0, none⟩)]) (by simp) (by simp [go_sem]) ?_
    refine (rcatch_panicking w.heap.size (.slice none 0 0) (.int .i64 0) (.int .i64 0) n a [] _ c0 f0 c1 f1 c2 f2).mono ?_
    rintro e u' w'' ⟨rfl, rfl, w2, hb2, rfl⟩
    have hb3 : Below w.heap.size w w2 := hb0.trans (hb2.mono (by omega))
    have P : AltsPost ts en w (.returned (.tuple #[.slice none 0 0, .agg #[.int .i64 n, .int .i64 a]])) (((w2.setCell ⟨w.heap.size, 0, none⟩ (.slice none 0 0)).setCell ⟨w.heap.size + 1, 0, none⟩ (.int .i64 n)).setCell ⟨w.heap.size + 1, 1, none⟩ (.int .i64 a)) := by
      refine ⟨((hb3.setCell (by exact Nat.le_refl _) _).setCell (by exact Nat.le_succ _) _).setCell (by exact Nat.le_succ _) _, .slice none 0 0, ?_, ?_⟩
      · rw [HG2.out]
      · rw [HG2.out]; exact AlsAt.nil _ _
    have d0 := cell_later hb2 c0
    have d1 := cell_later hb2 c1
    have d2 := cell_later hb2 c2
    simp [Leaves, settle, results, Try.results61, go_sem, d0, d1, d2]
    exact P
  · have HG2 : Hid (Rd.altsG ts en = (0, 0, acc)) := Rd.altsG_ok HA
    obtain ⟨r0, r1, r2, r3, z0, z1, z2, z3⟩ := cells_four hrs.blk
    have HO : Hid (AlsAt (w.heap.size + 1 + 1 + 1) w1 (.slice xo acc.length xc) acc) := hrs.own
    clear HA hrs
    go_wp2
    refine leaves_cons (f := 81) (args := #[.pointer (some ⟨w.heap.size, 0, none⟩), .pointer (some ⟨w.heap.size + 1, 0, none⟩)]) (by simp) (by simp [go_sem]) ?_
    refine (rcatch_idle ⟨w.heap.size, 0, none⟩ ⟨w.heap.size + 1, 0, none⟩ _).mono ?_
    rintro e u' w'' ⟨rfl, rfl, rfl⟩
    have P : AltsPost ts en w (.returned (.tuple #[.slice xo acc.length xc, .agg #[.int .i64 0, .int .i64 0]])) (((w1.setCell ⟨w.heap.size, 0, none⟩ (.slice xo acc.length xc)).setCell ⟨w.heap.size + 1, 0, none⟩ (.int .i64 0)).setCell ⟨w.heap.size + 1, 1, none⟩ (.int .i64 0)) := by
      refine ⟨((hb0.setCell (by exact Nat.le_refl _) _).setCell (by exact Nat.le_succ _) _).setCell (by exact Nat.le_succ _) _, .slice xo acc.length xc, ?_, ?_⟩
      · rw [HG2.out]
      · rw [HG2.out]
        exact (((HO.out.setCell (by show w.heap.size < _; omega) _).setCell (by show w.heap.size + 1 < _; omega) _).setCell (by show w.heap.size + 1 < _; omega) _).from (by omega)
    simp [Leaves, settle, results, Try.results61, go_sem, c0, c1, c2]
    exact P

/-- Alts where what it comes to is known -/
theorem alts_is (ao : Option Addr) (c : Nat) (ts : List Rd.Tk) (en : Int) (E At : Int) (xs : List Rd.Al) (w : World) (hl : ts.length ≤ 2000) (hx : ∀ t ∈ ts, t.text.size ≤ 281474976710656) (hc : ts.length ≤ c ∧ c ≤ maxLen) (h : TksAt w.heap.size w ao ts)
    (HG : Hid (Rd.altsG ts en = (E, At, xs))) :
    Calls Try.prog 61 #[.slice ao ts.length c, .int .i64 en] w fun e w' => ∃ xo xc, e = .returned (.tuple #[.slice xo xs.length xc, .agg #[.int .i64 E, .int .i64 At]]) ∧ Hid (Below w.heap.size w w') ∧ Hid (AlsAt w.heap.size w' (.slice xo xs.length xc) xs) := by
  refine (alts_any ao c ts en w hl hx hc h).mono ?_
  rintro e w1 ⟨hb, v, rfl, hown⟩
  rw [HG.out] at hown ⊢
  obtain ⟨xo, xc, hv, _⟩ := hown.read
  subst hv
  exact ⟨xo, xc, rfl, hb, hown⟩
end Go.Proofs.Ytimjopaedfefmaa
