/-
  The law GrammarMay, walked, where the text is too long, or no grammar's.
-/
import Derived.Test.YtimjopaedfefmaaGrWakes
import Derived.Test.YtimjopaedfefmaaGrMath8
import Derived.Test.YtimjopaedfefmaaGrMath9
import Derived.Deep.DeepCutAuto
namespace Go.Proofs.Ytimjopaedfefmaa
open Go.RowKit

set_option maxRecDepth 100000 in
set_option maxHeartbeats 6400000 in
theorem grammarMay_out (s : ByteArray) (w : World) (hs : s.size ≤ maxLen) (h : 2000 < s.size ∨ (s.size ≤ 2000 ∧ ∃ n a : Int, n ≠ 0 ∧ 0 ≤ a ∧ a ≤ s.size ∧ ofS s.data.toList = (n, a, ⟨[], [], []⟩))) :
    Calls Try.prog 3 #[.string s] w fun e w' => e = .returned (.bool true) ∧ Below w.heap.size w w' := by
  have hs' : s.size ≤ 9223372036854775807 := hs
  rcases h with h | ⟨h9, n, a, hn, ha0, ha1, hG⟩
  · go_enter Try.func3, Try.ntmps3
    go_wp2_with (go_at_call 9; refine (gwakes_any _).mono ?_; rintro e w1 ⟨rfl, hb⟩)
    go_ret
    exact ⟨rfl, hb⟩
  · have G1 : Hid (ofS s.data.toList = (n, a, ⟨[], [], []⟩)) := hG
    have k1 : (n != 0) = true := by simp [hn]
    have h9d : decide (2000 < (s.size : Int)) = false := decide_eq_false (by omega)
    obtain ⟨E, At, us, hT⟩ : ∃ E At us, tokensG s.data.toList = (E, At, us) := ⟨_, _, _, rfl⟩
    have GT : Hid (tokensG s.data.toList = (E, At, us)) := hT
    have ha2 : a ≤ (s.size : Int) := ha1
    clear hn hG hT
    go_enter Try.func3, Try.ntmps3
    go_wp2_with fail
    refine (of_is s n a _ _ hs G1).mono ?_
    rintro e w1 ⟨⟨ta, tc, na, nc, ra, rc⟩, rfl, hb1, ho1⟩
    simp only [gmCells]
    go_wp2_with (go_at_call 11; fail)
    refine (rtokens_is s E At us (us.map tkOf) _ hs GT rfl).mono ?_
    rintro e w2 ⟨ao, c, rfl, hb2, ht2, hc2⟩
    have hbA : Hid (Below w1.heap.size w1 ((w1.alloc (Obj.cells #[.slice ta 0 tc, .slice na 0 nc, .slice ra 0 rc] 26)).alloc (Obj.cells #[.int .i64 n, .int .i64 a] 29))) := ((Below.refl _ w1).alloc (Nat.le_refl _) _).alloc (by simp) _
    have f0 : w2.cell? ⟨w1.heap.size + 1, 0, none⟩ = some (.int .i64 n) := (hb2.out.cell (by simp)).trans (by simp [go_sem])
    have f1 : w2.cell? ⟨w1.heap.size + 1, 1, none⟩ = some (.int .i64 a) := (hb2.out.cell (by simp)).trans (by simp [go_sem])
    have g0 : w2.cell? ⟨w1.heap.size, 0, none⟩ = some (.slice ta 0 tc) := (hb2.out.cell (by simp; omega)).trans (by simp [go_sem])
    have g1 : w2.cell? ⟨w1.heap.size, 1, none⟩ = some (.slice na 0 nc) := (hb2.out.cell (by simp; omega)).trans (by simp [go_sem])
    have g2 : w2.cell? ⟨w1.heap.size, 2, none⟩ = some (.slice ra 0 rc) := (hb2.out.cell (by simp; omega)).trans (by simp [go_sem])
    have hb12 : Hid (Below w.heap.size w w2) := (hb1.out.trans (hbA.out.mono hb1.out.size)).trans (hb2.out.mono (by have := hb1.out.size; have := hbA.out.size; omega))
    have hbB : Hid (Below w2.heap.size w2 (w2.alloc (Obj.cells #[.int .i64 E, .int .i64 At] 29))) := (Below.refl _ w2).alloc (Nat.le_refl _) _
    replace f0 := cell_later hbB.out f0
    replace f1 := cell_later hbB.out f1
    replace g0 := cell_later hbB.out g0
    replace g1 := cell_later hbB.out g1
    replace g2 := cell_later hbB.out g2
    have hbZ : Hid (Below w.heap.size w (w2.alloc (Obj.cells #[.int .i64 E, .int .i64 At] 29))) := hb12.out.trans (hbB.out.mono hb12.out.size)
    clear hb2 hbA hb1 ho1 hbB hb12 ht2
    go_upto_region 5 with fail
    generalize (w2.alloc (Obj.cells #[.int .i64 E, .int .i64 At] 29)) = W2 at *
    go_wp2_with (first | (go_at_call 9; refine (gwakes_any _).mono ?_; rintro e w3 ⟨rfl, hb3⟩))
    go_ret
    exact ⟨rfl, hbZ.out.trans (hb3.mono hbZ.out.size)⟩
end Go.Proofs.Ytimjopaedfefmaa
