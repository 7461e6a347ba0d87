/-
  LexTells: of every two texts: the tokens, or the fault, of the one are as the document says; whether the other is a name, or may stand in a quote, too. No condition.
-/
import Derived.Test.YtpeleedpbdnhmaaLexRefTokens
namespace Go.Proofs.Ytpeleedpbdnhmaa
open Go.RowKit

theorem refTokens_any (s : ByteArray) (w : World) (hs : s.size ≤ maxLen) : Calls Try.prog 11 #[.string s] w (RefPost s w) := by
  by_cases h : 2000 < s.size
  · exact refTokens_large s w hs h
  · exact refTokens_small s w (by omega)

theorem refTokens_is (s : ByteArray) (E At : Int) (ts : List Lx.Tok) (w : World) (hs : s.size ≤ maxLen) (HG : Hid (tokensG s.data.toList = (E, At, ts))) :
    Calls Try.prog 11 #[.string s] w fun e w' => ∃ ao c, e = .returned (.agg #[.slice ao ts.length c, .int .i64 E, .int .i64 At]) ∧ Below w.heap.size w w' ∧
      w'.ownsRow w.heap.size 36 3 (.slice ao ts.length c) ts.length (toksCells ts) := by
  refine (refTokens_any s w hs).mono ?_
  rintro e w1 ⟨hb, ao, n, c, rfl, hown⟩
  rw [HG.out] at hown ⊢
  obtain ⟨ao', c', hv, _⟩ := toks_read hown
  simp only [Value.slice.injEq] at hv
  obtain ⟨rfl, rfl, rfl⟩ := hv
  exact ⟨_, _, rfl, hb, hown⟩

theorem tokensG_few (l : List UInt8) : (tokensG l).2.2.length ≤ 2000 := by
  unfold tokensG
  split
  · simp
  · split
    · rename_i h0 ts hr
      have := Lx.tokens_count hr
      simp only
      omega
    · simp

set_option maxRecDepth 100000 in
set_option maxHeartbeats 4000000 in
theorem lexTells_walk (s t : ByteArray) (w : World) (hs : s.size ≤ maxLen) (ht : t.size ≤ maxLen) :
    Calls Try.prog 3 #[.string s, .string t] w fun e w' => e = .returned (.bool true) ∧ Below w.heap.size w w' := by
  have hs' := hs
  have ht' := ht
  unfold maxLen at hs ht
  by_cases h2 : 4000 < s.size
  · go_enter Try.func3, Try.ntmps3
    go_wp2_with (go_at_call 9; refine (wakes_any _).mono ?_; rintro e w1 ⟨rfl, hb⟩)
    go_ret
    exact ⟨rfl, hb⟩
  · have d2 : decide (4000 < (s.size : Int)) = false := by simp; omega
    by_cases h3 : 1000 < t.size
    · go_enter Try.func3, Try.ntmps3
      go_wp2_with (go_at_call 9; refine (wakes_any _).mono ?_; rintro e w1 ⟨rfl, hb⟩)
      go_ret
      exact ⟨rfl, hb⟩
    · have d3 : decide (1000 < (t.size : Int)) = false := by simp; omega
      obtain ⟨E, At, ts, hG⟩ : ∃ E At ts, tokensG s.data.toList = (E, At, ts) := ⟨_, _, _, rfl⟩
      have HG : Hid (tokensG s.data.toList = (E, At, ts)) := hG
      have hfew := tokensG_few s.data.toList
      rw [hG] at hfew
      simp only at hfew
      clear hG
      go_enter Try.func3, Try.ntmps3
      go_wp2_with fail
      refine (tokens_is s E At ts _ hs' HG).mono ?_
      rintro e w1 ⟨ao, c, rfl, hb1, hown1⟩
      go_wp2_with fail
      refine (refTokens_is s E At ts _ hs' HG).mono ?_
      rintro e w2 ⟨ao2, c2, rfl, hb2, hown2⟩
      have x1 : w2.cell? ⟨w1.heap.size, 0, none⟩ = some (.int .i64 E) := (hb2.cell (by simp)).trans (by simp [go_sem])
      have x2 : w2.cell? ⟨w1.heap.size, 1, none⟩ = some (.int .i64 At) := (hb2.cell (by simp)).trans (by simp [go_sem])
      have z2 : w1.heap.size < w2.heap.size := by have := hb2.size; simp at this; omega
      have own1 := (ownsRow_below (hown1.alloc (.cells #[.int .i64 E, .int .i64 At] 26)) hb2).alloc (.cells #[.slice ao2 ts.length c2, .int .i64 E, .int .i64 At] 30)
      have own2 := hown2.alloc (.cells #[.slice ao2 ts.length c2, .int .i64 E, .int .i64 At] 30)
      have hB2 : Below w.heap.size w w2 := (hb1.alloc hb1.size _).trans (hb2.mono (by have := hb1.size; simp; omega))
      clear hb1 hb2 hown1 hown2 HG
      go_wp2_with fail
      refine (keepTokens_same ts hfew ao ao2 c c2 _ _ _ own1 own2).mono ?_
      rintro e w3 ⟨rfl, hb3⟩
      have y1 := later_alloc hb3 x1
      have y2 := later_alloc hb3 x2
      have y3 : w3.cell? ⟨w2.heap.size, 0, none⟩ = some (.slice ao2 ts.length c2) := (hb3.cell (by simp)).trans (by simp [go_sem])
      have y4 : w3.cell? ⟨w2.heap.size, 1, none⟩ = some (.int .i64 E) := (hb3.cell (by simp)).trans (by simp [go_sem])
      have y5 : w3.cell? ⟨w2.heap.size, 2, none⟩ = some (.int .i64 At) := (hb3.cell (by simp)).trans (by simp [go_sem])
      have hB3 : Below w.heap.size w w3 := (hB2.alloc hB2.size _).trans (hb3.mono (by have := hB2.size; simp; omega))
      clear own1 own2 hb3 x1 x2
      go_wp2_with (first | (go_at_call 13; refine (isName_any _ _ ht').mono ?_; rintro e w3 ⟨rfl, rfl⟩) | (go_at_call 15; refine (isTerm_any _ _ ht').mono ?_; rintro e w3 ⟨rfl, rfl⟩) | (go_at_call 14; refine (refIsName_any _ _ ht').mono ?_; rintro e w3 ⟨rfl, rfl⟩) | (go_at_call 16; refine (refIsTerm_any _ _ ht').mono ?_; rintro e w3 ⟨rfl, rfl⟩) | (go_at_call 9; refine (wakes_any _).mono ?_; rintro e w5 ⟨rfl, hb5⟩))
      go_ret
      exact ⟨rfl, hB3.trans (hb5.mono hB3.size)⟩
end Go.Proofs.Ytpeleedpbdnhmaa
