/-
  Layer 1 (lex): Tokens: all tokens of any text, or its fault.
-/
import Derived.Test.YtimjopaedfefmaaLexScan
namespace Go.Proofs.Ytimjopaedfefmaa
open Go.RowKit

theorem assert_fault (x : Value) (w : World) : (Instr.typeAssert (.iface 29 x) 20 29 true).run Try.prog w = .ok (.tuple #[x, .bool true]) w := by kernel_rfl

set_option maxHeartbeats 400000 in
theorem faultOf_any (a b : Int) (w : World) :
    Calls Try.prog 34 #[.iface 29 (.agg #[.int .i64 a, .int .i64 b])] w fun e w' => e = .returned (.agg #[.int .i64 a, .int .i64 b]) ∧ Below w.heap.size w w' := by
  have hta := assert_fault (.agg #[.int .i64 a, .int .i64 b])
  go_enter Try.func34, Try.ntmps34
  go_wp2
  refine bodyPost_ret (v := .agg #[.int .i64 a, .int .i64 b]) (by simp [results, Try.results34, go_sem]) rfl ⟨rfl, ?_⟩
  exact ((Below.refl _ w).alloc (Nat.le_refl _) _).alloc (by simp) _

set_option maxHeartbeats 800000 in
theorem catch_panicking (B : Nat) (v0 v1 v2 : Value) (a b : Int) (older : List PanicEntry) (w : World)
    (hB : w.cell? ⟨B, 0, none⟩ = some v0) (hBz : w.frozen? ⟨B, 0, none⟩ = false)
    (hC : w.cell? ⟨B + 1, 0, none⟩ = some v1) (hCz : w.frozen? ⟨B + 1, 0, none⟩ = false) (hD : w.cell? ⟨B + 1, 1, none⟩ = some v2) (hDz : w.frozen? ⟨B + 1, 1, none⟩ = false) :
    CallsD Try.prog 33 #[.pointer (some ⟨B, 0, none⟩), .pointer (some ⟨B + 1, 0, none⟩)] (.panicking ({ v := .iface 29 (.agg #[.int .i64 a, .int .i64 b]), recovered := false } :: older)) w fun e u' w' =>
      e = .returned (.tuple #[]) ∧ u' = .panicking ({ v := .iface 29 (.agg #[.int .i64 a, .int .i64 b]), recovered := true } :: older) ∧
      ∃ w1, Below w.heap.size w w1 ∧ w' = ((w1.setCell ⟨B, 0, none⟩ (.slice none 0 0)).setCell ⟨B + 1, 0, none⟩ (.int .i64 a)).setCell ⟨B + 1, 1, none⟩ (.int .i64 b) := by
  refine callsD_of_wpS Try.func33 rfl fun c₀ cs hu => ?_
  apply wpS_seq
  apply wpS_region
  simp [wpOpsS, go_sem, recoverD, hu, Try.ntmps33, Exit.thenS]
  apply wpS_seq
  apply wpS_region
  simp [wpOpsS, go_sem, Exit.thenS]
  refine wpS_cond (t := true) (by simp [Act.eval, Array.replicate]) ?_
  simp only [if_true]
  refine wpS_of_wp ?_
  have ht : (#[Value.pointer (some ⟨B, 0, none⟩), Value.pointer (some ⟨B + 1, 0, none⟩)] ++
          ((((Array.replicate 6 undef).setIfInBounds 1 (Value.iface 29 (Value.agg #[Value.int IntKind.i64 a, Value.int IntKind.i64 b]))).setIfInBounds
                    0 (Value.iface 29 (Value.agg #[Value.int IntKind.i64 a, Value.int IntKind.i64 b]))).setIfInBounds
                2 (Value.iface 29 (Value.agg #[Value.int IntKind.i64 a, Value.int IntKind.i64 b]))).setIfInBounds
            3 (Value.bool true)) = #[Value.pointer (some ⟨B, 0, none⟩), Value.pointer (some ⟨B + 1, 0, none⟩), .iface 29 (.agg #[.int .i64 a, .int .i64 b]), .iface 29 (.agg #[.int .i64 a, .int .i64 b]), .iface 29 (.agg #[.int .i64 a, .int .i64 b]), .bool true, undef, undef] := rfl
  rw [ht]
  clear ht hu
  go_wp2_with fail
  refine (faultOf_any a b _).mono ?_
  rintro e w1 ⟨rfl, hb⟩
  have c1 := cell_later hb hB
  have c2 := cell_later hb hC
  have c3 := cell_later hb hD
  have f1 : w1.frozen? ⟨B, 0, none⟩ = false := (hb.frozen (World.block_lt_of_cell? _ _ hB)).trans hBz
  have f2 : w1.frozen? ⟨B + 1, 0, none⟩ = false := (hb.frozen (World.block_lt_of_cell? _ _ hC)).trans hCz
  have f3 : w1.frozen? ⟨B + 1, 1, none⟩ = false := (hb.frozen (World.block_lt_of_cell? _ _ hD)).trans hDz
  clear hB hC hD hBz hCz hDz
  go_wp2
  simp [bodyPostS, results, Try.results33]
  exact ⟨w1, hb, rfl⟩

set_option maxHeartbeats 800000 in
theorem catch_idle (p q : Addr) (w : World) :
    CallsD Try.prog 33 #[.pointer (some p), .pointer (some q)] .returning w fun e u' w' => e = .returned (.tuple #[]) ∧ u' = .returning ∧ w' = w := by
  refine callsD_of_wpS Try.func33 rfl fun c₀ cs hu => ?_
  apply wpS_seq
  apply wpS_region
  simp [wpOpsS, go_sem, recoverD, hu, Try.ntmps33, Exit.thenS]
  apply wpS_seq
  apply wpS_region
  simp [wpOpsS, go_sem, Exit.thenS]
  refine wpS_cond (t := false) (by simp [Act.eval, Array.replicate]) ?_
  simp only [Bool.false_eq_true, if_false]
  refine wpS_of_wp (wp_skip ?_)
  cases c₀
  simp_all [bodyPostS, results, Try.results33]

/-- the fault's number, its byte, the tokens -/
def tokensG (l : List UInt8) : Int × Int × List Lx.Tok :=
  if 2000 < l.length then (14, 0, []) else match Lx.tokens l with | .ok ts => (0, 0, ts) | .error p => (11, p, [])

/-- what Tokens comes to -/
def TokPost (s : ByteArray) (w : World) (e : Ending) (w' : World) : Prop :=
  Below w.heap.size w w' ∧ ∃ v, e = .returned (.tuple #[v, .agg #[.int .i64 (tokensG s.data.toList).1, .int .i64 (tokensG s.data.toList).2.1]]) ∧
    w'.ownsRow w.heap.size 37 3 v (tokensG s.data.toList).2.2.length (toksCells (tokensG s.data.toList).2.2)

set_option maxHeartbeats 800000 in
theorem tokens_large (s : ByteArray) (w : World) (hs : s.size ≤ maxLen) (h : 2000 < s.size) : Calls Try.prog 11 #[.string s] w (TokPost s w) := by
  unfold maxLen at hs
  have HG : Hid (tokensG s.data.toList = (14, 0, [])) := by show _ = _; rw [tokensG, if_pos (by simpa using h)]
  have hmf : ∀ (fn : Fn) (first cap : Array Value) (w : World), (Instr.makeFunc fn first cap).run Try.prog w = .ok (.func fn first cap) w := fun _ _ _ _ => rfl
  go_enter_defers Try.func11, Try.ntmps11
  go_wp2
  have hb : Below w.heap.size w ((w.alloc (Obj.cells #[Value.slice none 0 0] 32)).alloc (Obj.cells #[Value.int IntKind.i64 14, Value.int IntKind.i64 0] 29)) := ((Below.refl _ w).alloc (Nat.le_refl _) _).alloc (by simp) _
  have P : TokPost s w (.returned (.tuple #[.slice none 0 0, .agg #[.int .i64 14, .int .i64 0]])) ((w.alloc (Obj.cells #[Value.slice none 0 0] 32)).alloc (Obj.cells #[Value.int IntKind.i64 14, Value.int IntKind.i64 0] 29)) := by
    refine ⟨hb, .slice none 0 0, ?_, ?_⟩
    · rw [HG.out]
    · rw [HG.out]; exact World.ownsRow_nil _ _ _ _
  simp [bodyPostD, Leaves, results, Try.results11, go_sem]
  exact P

set_option maxHeartbeats 1600000 in
theorem tokens_small (s : ByteArray) (w : World) (h : s.size ≤ 2000) : Calls Try.prog 11 #[.string s] w (TokPost s w) := by
  have hmf : ∀ (fn : Fn) (first cap : Array Value) (w : World), (Instr.makeFunc fn first cap).run Try.prog w = .ok (.func fn first cap) w := fun _ _ _ _ => rfl
  have hG : tokensG s.data.toList = match Lx.tokens s.data.toList with | .ok ts => (0, 0, ts) | .error p => (11, p, []) := by rw [tokensG, if_neg (by simp; omega)]
  have HG : Hid (tokensG s.data.toList = match Lx.tokens s.data.toList with | .ok ts => (0, 0, ts) | .error p => (11, p, [])) := hG
  clear hG
  go_enter_defers Try.func11, Try.ntmps11
  go_wp2_with fail
  refine (scan_any _ _ h).mono ?_
  rintro e w1 ⟨hb, hcase⟩
  have c0 : w1.cell? ⟨w.heap.size, 0, none⟩ = some (.slice none 0 0) := (hb.cell (by simp; omega)).trans (by simp [go_sem])
  have c1 : w1.cell? ⟨w.heap.size + 1, 0, none⟩ = some (.int .i64 0) := (hb.cell (by simp)).trans (by simp [go_sem])
  have c2 : w1.cell? ⟨w.heap.size + 1, 1, none⟩ = some (.int .i64 0) := (hb.cell (by simp)).trans (by simp [go_sem])
  have f0 : w1.frozen? ⟨w.heap.size, 0, none⟩ = false := (hb.frozen (by simp; omega)).trans (by simp [go_sem])
  have f1 : w1.frozen? ⟨w.heap.size + 1, 0, none⟩ = false := (hb.frozen (by simp)).trans (by simp [go_sem])
  have f2 : w1.frozen? ⟨w.heap.size + 1, 1, none⟩ = false := (hb.frozen (by simp)).trans (by simp [go_sem])
  have hz : w.heap.size + 1 < w1.heap.size := by have := hb.size; simp at this; omega
  have hb0 : Below w.heap.size w w1 := (((Below.refl _ w).alloc (Nat.le_refl _) _).alloc (by simp) _).trans (hb.mono (by simp; omega))
  rcases hcase with ⟨ts, ao, n, c, HT, rfl, hown⟩ | ⟨p, HT, rfl⟩
  · have hG := HG.out
    rw [HT] at hG
    simp only at hG
    have HG2 : Hid (tokensG s.data.toList = (0, 0, ts)) := hG
    clear HT HG hG
    go_wp2
    refine leaves_cons (f := 33) (args := #[.pointer (some ⟨w.heap.size, 0, none⟩), .pointer (some ⟨w.heap.size + 1, 0, none⟩)]) (by simp) (by simp [go_sem]) ?_
    refine (catch_idle ⟨w.heap.size, 0, none⟩ ⟨w.heap.size + 1, 0, none⟩ _).mono ?_
    rintro e u' w'' ⟨rfl, rfl, rfl⟩
    have P : TokPost s w (.returned (.tuple #[.slice ao n c, .agg #[.int .i64 0, .int .i64 0]])) (((w1.setCell ⟨w.heap.size, 0, none⟩ (.slice ao n c)).setCell ⟨w.heap.size + 1, 0, none⟩ (.int .i64 0)).setCell ⟨w.heap.size + 1, 1, none⟩ (.int .i64 0)) := by
      refine ⟨((hb0.setCell (by exact Nat.le_refl _) _).setCell (by exact Nat.le_succ _) _).setCell (by exact Nat.le_succ _) _, .slice ao n c, ?_, ?_⟩
      · rw [HG2.out]
      · rw [HG2.out]
        exact ownsRow_from (ownsRow_setCell_below (ownsRow_setCell_below (ownsRow_setCell_below hown (by simp; omega) _) (by simp) _) (by simp) _) (by simp; omega)
    simp [Leaves, settle, results, Try.results11, go_sem, c0, c1, c2]
    exact P
  · have hG := HG.out
    rw [HT] at hG
    simp only at hG
    have HG2 : Hid (tokensG s.data.toList = ((11 : Int), (p : Int), ([] : List Lx.Tok))) := hG
    clear HT HG hG
    go_wp2
    refine leaves_cons (f := 33) (args := #[.pointer (some ⟨w.heap.size, 0, none⟩), .pointer (some ⟨w.heap.size + 1, 0, none⟩)]) (by simp) (by simp [go_sem]) ?_
    refine (catch_panicking w.heap.size (.slice none 0 0) (.int .i64 0) (.int .i64 0) 11 p [] _ c0 f0 c1 f1 c2 f2).mono ?_
    rintro e u' w'' ⟨rfl, rfl, w2, hb2, rfl⟩
    have hb3 : Below w.heap.size w w2 := hb0.trans (hb2.mono (by omega))
    have P : TokPost s w (.returned (.tuple #[.slice none 0 0, .agg #[.int .i64 11, .int .i64 p]])) (((w2.setCell ⟨w.heap.size, 0, none⟩ (.slice none 0 0)).setCell ⟨w.heap.size + 1, 0, none⟩ (.int .i64 11)).setCell ⟨w.heap.size + 1, 1, none⟩ (.int .i64 p)) := by
      refine ⟨((hb3.setCell (by exact Nat.le_refl _) _).setCell (by exact Nat.le_succ _) _).setCell (by exact Nat.le_succ _) _, .slice none 0 0, ?_, ?_⟩
      · rw [HG2.out]
      · rw [HG2.out]; exact World.ownsRow_nil _ _ _ _
    have d0 := cell_later hb2 c0
    have d1 := cell_later hb2 c1
    have d2 := cell_later hb2 c2
    simp [Leaves, settle, results, Try.results11, go_sem, d0, d1, d2]
    exact P

theorem tokens_any (s : ByteArray) (w : World) (hs : s.size ≤ maxLen) : Calls Try.prog 11 #[.string s] w (TokPost s w) := by
  by_cases h : 2000 < s.size
  · exact tokens_large s w hs h
  · exact tokens_small s w (by omega)
end Go.Proofs.Ytimjopaedfefmaa
