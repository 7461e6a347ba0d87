/-
  Layer 1 (lex): noteEnd, gapEnd, strings.Clone, throw: what they answer.
-/
import Derived.Test.YtdjjconccneaiaaGreatLexSmall
import Derived.Test.YtdjjconccneaiaaGreatLexLib
import Derived.Test.YtdjjconccneaiaaGreatShelf
namespace Go.Proofs.YtdjjconccneaiaaGreat
open Go.RowKit

set_option maxHeartbeats 400000 in
theorem throw_any (a : Int) (w : World) :
    Calls Tryz.prog 124 #[.int .i64 a] w fun e w' => e = .panicked [{ v := .iface 51 (.agg #[.int .i64 11, .int .i64 a]), recovered := false }] ∧ w' = w := by
  go_enter Tryz.func124, Tryz.ntmps124
  go_wp2
  exact ⟨rfl, rfl, rfl⟩

set_option maxHeartbeats 400000 in
theorem clone_any (s : ByteArray) (w : World) (hlim : s.size ≤ 281474976710656) :
    Calls Tryz.prog 125 #[.string s] w fun e w' => e = .returned (.string s) ∧ Below w.heap.size w w' := by
  go_enter Tryz.func125, Tryz.ntmps125
  go_wp2_with (go_at_call 130; refine (Tryz.stringslite_Clone _ _ hlim).mono ?_; rintro e w' ⟨rfl, hb⟩)
  go_ret
  exact ⟨rfl, hb⟩

set_option maxHeartbeats 800000 in
theorem noteEnd_any (s : ByteArray) (a : Int) (w : World) (hs : s.size ≤ maxLen) (h0 : 0 ≤ a) (h1 : a ≤ s.size) :
    Calls Tryz.prog 117 #[.string s, .int .i64 a] w fun e w' => e = .returned (.int .i64 (a + Lx.upTo 10 (s.data.toList.drop a.toNat))) ∧ w' = w := by
  unfold maxLen at hs
  obtain ⟨n, rfl⟩ := Int.eq_ofNat_of_zero_le h0
  rw [Int.toNat_natCast]
  have hn : n ≤ s.size := by omega
  clear h0 h1
  have HL : Hid ((s.data.toList.drop n).length = s.size - n) := by show _ = _; simp
  have hu := Lx.upTo_le 10 (s.data.toList.drop n)
  rw [HL.out] at hu
  by_cases hf : Lx.upTo 10 (s.data.toList.drop n) < s.size - n
  · have R : Hid (Lib.indexByte (s.extract n s.size).data.toList 10 = Lx.upTo 10 (s.data.toList.drop n)) := by
      show _ = _
      rw [Lx.extract_list, List.take_of_length_le (by rw [HL.out]; omega)]
      exact Lx.indexByte_pos (by rw [HL.out]; exact hf)
    generalize Lx.upTo 10 (s.data.toList.drop n) = u at *
    go_enter Tryz.func117, Tryz.ntmps117
    go_wp2_with (go_at_call 123; refine (Tryz.strings_IndexByte _ _ _).mono ?_; rintro e w' ⟨rfl, rfl⟩; rw [show (10 : Int).toNat.toUInt8 = 10 from rfl, R.out])
    go_ret
    exact ⟨rfl, rfl⟩
  · have R : Hid (Lib.indexByte (s.extract n s.size).data.toList 10 = -1) := by
      show _ = _
      rw [Lx.extract_list, List.take_of_length_le (by rw [HL.out]; omega)]
      exact Lx.indexByte_neg (by rw [HL.out]; exact hf)
    generalize Lx.upTo 10 (s.data.toList.drop n) = u at *
    go_enter Tryz.func117, Tryz.ntmps117
    go_wp2_with (go_at_call 123; refine (Tryz.strings_IndexByte _ _ _).mono ?_; rintro e w' ⟨rfl, rfl⟩; rw [show (10 : Int).toNat.toUInt8 = 10 from rfl, R.out])
    go_ret
    exact ⟨ret_int (by omega), rfl⟩

set_option maxHeartbeats 1600000 in
theorem gapEnd_any (s : ByteArray) (a : Int) (w : World) (hs : s.size ≤ maxLen) (h0 : 0 ≤ a) (h1 : a ≤ s.size) :
    Calls Tryz.prog 108 #[.string s, .int .i64 a] w fun e w' => e = .returned (.int .i64 (a + Lx.gap false (s.data.toList.drop a.toNat))) ∧ w' = w := by
  have hs' := hs
  unfold maxLen at hs
  obtain ⟨n, rfl⟩ := Int.eq_ofNat_of_zero_le h0
  rw [Int.toNat_natCast]
  have hn : n ≤ s.size := by omega
  clear h0 h1
  go_enter Tryz.func108, Tryz.ntmps108
  go_wp2
  go_loop [1] (fun i => ∃ k : Nat, k ≤ s.size ∧ i = .int .i64 k ∧ Hid ((k : Int) + Lx.gap false (s.data.toList.drop k) = n + Lx.gap false (s.data.toList.drop n))) (fun i => s.size - (intOf i).toNat)
  case atStart => exact ⟨n, hn, rfl, rfl⟩
  case round =>
    obtain ⟨k, hk, rfl, hE⟩ := hrel
    by_cases hlt : k < s.size
    · have HS : Hid (s.data.toList.drop k = s[k] :: s.data.toList.drop (k + 1)) := Lx.drop_cons s k hlt
      have b1 : ((s[k].toNat : Int) == 32) = (s[k] == 32) := Lx.beqI s[k] 32
      have b2 : ((s[k].toNat : Int) == 9) = (s[k] == 9) := Lx.beqI s[k] 9
      have b3 : ((s[k].toNat : Int) == 10) = (s[k] == 10) := Lx.beqI s[k] 10
      have b4 : ((s[k].toNat : Int) == 35) = (s[k] == 35) := Lx.beqI s[k] 35
      cases q : (s[k] == 32 || s[k] == 9 || s[k] == 10)
      · simp only [Bool.or_eq_false_iff] at q
        obtain ⟨⟨q1, q2⟩, q3⟩ := q
        rw [q1] at b1; rw [q2] at b2; rw [q3] at b3
        cases q4 : (s[k] == 35)
        · rw [q4] at b4
          have R : Hid ((k : Int) = n + Lx.gap false (s.data.toList.drop n)) := by
            have e := hE.out
            rw [HS.out, Lx.gap_else (by simp [q1, q2, q3]) q4] at e
            show _ = _
            omega
          clear hE HS q1 q2 q3 q4
          go_wp2
          go_ret
          exact ⟨ret_int R.out, rfl⟩
        · rw [q4] at b4
          have e := hE.out
          rw [HS.out, Lx.gap_note q4, ← HS.out, List.drop_drop] at e
          have u1 : 1 ≤ Lx.upTo 10 (s.data.toList.drop k) := by rw [HS.out, Lx.upTo_miss q3]; omega
          have u2 : Lx.upTo 10 (s.data.toList.drop k) ≤ s.size - k := by have := Lx.upTo_le 10 (s.data.toList.drop k); simpa using this
          have R : Hid (((k + Lx.upTo 10 (s.data.toList.drop k) : Nat) : Int) + Lx.gap false (s.data.toList.drop (k + Lx.upTo 10 (s.data.toList.drop k))) = n + Lx.gap false (s.data.toList.drop n)) := by
            show _ = _
            omega
          clear hE HS q1 q2 q3 q4 e
          go_wp2_with (go_at_call 117; go_must (refine (noteEnd_any _ _ _ hs' (by omega) (by omega)).mono ?_; rintro e w' ⟨rfl, rfl⟩))
          go_round
          case rel => exact ⟨k + Lx.upTo 10 (s.data.toList.drop k), by omega, by go_num, R⟩
          case measure => simp [intOf]; omega
      · have R : Hid (((k + 1 : Nat) : Int) + Lx.gap false (s.data.toList.drop (k + 1)) = n + Lx.gap false (s.data.toList.drop n)) := by
          have e := hE.out
          rw [HS.out, Lx.gap_blank q] at e
          show _ = _
          omega
        clear hE HS
        cases q1 : (s[k] == 32)
        · cases q2 : (s[k] == 9)
          · have q3 : (s[k] == 10) = true := by simpa [q1, q2] using q
            rw [q1] at b1; rw [q2] at b2; rw [q3] at b3
            clear q q1 q2 q3 b4
            go_wp2
            go_round
            case rel => exact ⟨k + 1, by omega, by go_num, R⟩
            case measure => simp [intOf]; omega
          · rw [q1] at b1; rw [q2] at b2
            clear q q1 q2 b3 b4
            go_wp2
            go_round
            case rel => exact ⟨k + 1, by omega, by go_num, R⟩
            case measure => simp [intOf]; omega
        · rw [q1] at b1
          clear q q1 b2 b3 b4
          go_wp2
          go_round
          case rel => exact ⟨k + 1, by omega, by go_num, R⟩
          case measure => simp [intOf]; omega
    · have R : Hid ((k : Int) = n + Lx.gap false (s.data.toList.drop n)) := by
        have e := hE.out
        rw [List.drop_of_length_le (by simp; omega)] at e
        show _ = _
        simp [Lx.gap] at e
        omega
      clear hE
      go_wp2
      go_ret
      exact ⟨ret_int R.out, rfl⟩
end Go.Proofs.YtdjjconccneaiaaGreat
