/-
  LexKinds: of every text each token's text is of its kind. No condition.
-/
import Derived.Test.YtpeleedpbdnhmaaLexWakes
namespace Go.Proofs.Ytpeleedpbdnhmaa
open Go.RowKit

theorem tokensG_good (l : List UInt8) : ∀ t ∈ (tokensG l).2.2, Lx.Good t.kind t.text := by
  unfold tokensG
  split
  · simp
  · split
    · rename_i ts h; exact Lx.tokens_good h
    · simp

theorem tokensG_count (l : List UInt8) (h : l.length ≤ 2000) : (tokensG l).2.2.length ≤ 2000 := by
  unfold tokensG
  split
  · simp
  · split
    · rename_i ts hr
      have := Lx.tokens_count hr
      simp only
      omega
    · simp

set_option maxHeartbeats 1600000 in
theorem lexKinds_walk (s : ByteArray) (w : World) (hs : s.size ≤ maxLen) :
    Calls Try.prog 8 #[.string s] w fun e w' => e = .returned (.bool true) ∧ Below w.heap.size w w' := by
  have hs' := hs
  unfold maxLen at hs
  by_cases h2 : 2000 < s.size
  · go_enter Try.func8, Try.ntmps8
    go_wp2_with (go_at_call 9; refine (wakes_any _).mono ?_; rintro e w1 ⟨rfl, hb⟩)
    go_ret
    exact ⟨rfl, hb⟩
  · obtain ⟨E, At, ts, hG⟩ : ∃ E At ts, tokensG s.data.toList = (E, At, ts) := ⟨_, _, _, rfl⟩
    have HG : Hid (tokensG s.data.toList = (E, At, ts)) := hG
    have hgood := tokensG_good s.data.toList
    have hcount := tokensG_count s.data.toList (by simp; omega)
    rw [hG] at hgood hcount
    simp only at hgood hcount
    clear hG
    have HGood : Hid (∀ t ∈ ts, Lx.Good t.kind t.text) := hgood
    clear hgood
    go_enter Try.func8, Try.ntmps8
    go_wp2_with fail
    refine (tokens_is s E At ts _ hs' HG).mono ?_
    rintro e w1 ⟨ao, c, rfl, hb, hown⟩
    obtain ⟨ao', c', hv, hr⟩ := toks_read hown
    simp only [Value.slice.injEq, true_and] at hv
    obtain ⟨rfl, rfl⟩ := hv
    have HR : Hid _ := hr
    clear hr hown
    go_wp2
    go_loopw [5] (fun i wr => ∃ k : Nat, k ≤ ts.length ∧ i = .int .i64 k ∧ wr = w1.alloc (.cells #[.int .i64 E, .int .i64 At] 26)) (fun i _ => ts.length - (intOf i).toNat)
    case atStart => exact ⟨0, Nat.zero_le _, rfl, rfl⟩
    case round =>
      obtain ⟨k, hk, rfl, rfl⟩ := hrel
      by_cases hlt : k < ts.length
      · obtain ⟨g, rfl, hg0, hg1, a0, a1, a2⟩ := HR.out k hlt
        have hgood := HGood.out ts[k] (List.getElem_mem hlt)
        generalize ts[k] = t at *
        obtain ⟨kd, tx, ps⟩ := t
        simp only at a0 a1 a2 hgood
        clear HR HGood HG a2
        rcases hgood with ⟨rfl, hx⟩ | ⟨rfl, hx⟩ | ⟨rfl, rfl⟩ | ⟨rfl, rfl⟩ | ⟨rfl, rfl⟩
        · have hl : tx.length ≤ 16 := by simp only [Lx.isName, Bool.and_eq_true, decide_eq_true_eq] at hx; exact hx.1.1.2
          have hm : (⟨tx.toArray⟩ : ByteArray).size ≤ maxLen := by show tx.toArray.size ≤ maxLen; simp only [List.size_toArray]; unfold maxLen; omega
          go_wp2_with (go_at_call 13; refine (isName_any _ _ hm).mono ?_; rintro e w2 ⟨rfl, rfl⟩)
          go_roundw
          case rel => exact ⟨k + 1, by omega, by go_num, trivial⟩
          case measure => simp [intOf]; omega
        · have hl : tx.length ≤ 16 := by simp only [Lx.isTerm, Bool.and_eq_true, decide_eq_true_eq] at hx; exact hx.1.2
          have hm : (⟨tx.toArray⟩ : ByteArray).size ≤ maxLen := by show tx.toArray.size ≤ maxLen; simp only [List.size_toArray]; unfold maxLen; omega
          go_wp2_with (go_at_call 15; refine (isTerm_any _ _ hm).mono ?_; rintro e w2 ⟨rfl, rfl⟩)
          go_roundw
          case rel => exact ⟨k + 1, by omega, by go_num, trivial⟩
          case measure => simp [intOf]; omega
        · go_wp2_with fail
          go_roundw
          case rel => exact ⟨k + 1, by omega, by go_num, trivial⟩
          case measure => simp [intOf]; omega
        · go_wp2_with fail
          go_roundw
          case rel => exact ⟨k + 1, by omega, by go_num, trivial⟩
          case measure => simp [intOf]; omega
        · go_wp2_with fail
          go_roundw
          case rel => exact ⟨k + 1, by omega, by go_num, trivial⟩
          case measure => simp [intOf]; omega
      · go_wp2_with (go_at_call 9; refine (wakes_any _).mono ?_; rintro e w2 ⟨rfl, hb2⟩)
        go_ret
        refine ⟨rfl, ?_⟩
        exact (hb.alloc hb.size _).trans (hb2.mono (by have := hb.size; simp; omega))
end Go.Proofs.Ytpeleedpbdnhmaa
