/-
  Layer 1 (lex): noteEnd, gapEnd, strings.Clone, throw: what they answer.
  Layer 1 (lex): name, quote, token: the token that begins at a byte, or the fault that is thrown. Layer 1 (lex): scan: all tokens of a text, or the fault of the first one that is none, thrown. Layer 1 (lex): Tokens: all tokens of any text, or its fault.
-/
import Derived.Test.YtdocbgfpnaiijaaLexSmall
import Derived.Test.YtdocbgfpnaiijaaLexLib
import Derived.Test.YtdocbgfpnaiijaaShelf
namespace Go.Proofs.Ytdocbgfpnaiijaa
open Go.RowKit

set_option maxHeartbeats 400000 in
theorem throw_any (a : Int) (w : World) :
    Calls Try.prog 120 #[.int .i64 a] w fun e w' => e = .panicked [{ v := .iface 56 (.agg #[.int .i64 11, .int .i64 a]), recovered := false }] ∧ w' = w := by
  go_enter Try.func120, Try.ntmps120
  go_wp2
  exact ⟨rfl, rfl, rfl⟩

set_option maxHeartbeats 400000 in
theorem clone_any (s : ByteArray) (w : World) (hlim : s.size ≤ 281474976710656) :
    Calls Try.prog 121 #[.string s] w fun e w' => e = .returned (.string s) ∧ Below w.heap.size w w' := by
  go_enter Try.func121, Try.ntmps121
  go_wp2_with (go_at_call 126; refine (Try.stringslite_Clone _ _ hlim).mono ?_; rintro e w' ⟨rfl, hb⟩)
  go_ret
  exact ⟨rfl, hb⟩

set_option maxHeartbeats 800000 in
theorem noteEnd_any (s : ByteArray) (a : Int) (w : World) (hs : s.size ≤ maxLen) (h0 : 0 ≤ a) (h1 : a ≤ s.size) :
    Calls Try.prog 113 #[.string s, .int .i64 a] w fun e w' => e = .returned (.int .i64 (a + Lx.upTo 10 (s.data.toList.drop a.toNat))) ∧ w' = w := by
  unfold maxLen at hs
  obtain ⟨n, rfl⟩ := Int.eq_ofNat_of_zero_le h0
  rw [Int.toNat_natCast]
  have hn : n ≤ s.size := by omega
  clear h0 h1
  have HL : Hid ((s.data.toList.drop n).length = s.size - n) := by show _ = _; simp
  have hu := Lx.upTo_le 10 (s.data.toList.drop n)
  rw [HL.out] at hu
  by_cases hf : Lx.upTo 10 (s.data.toList.drop n) < s.size - n
  · have R : Hid (Lib.indexByte (s.extract n s.size).data.toList 10 = Lx.upTo 10 (s.data.toList.drop n)) := by
      show _ = _
      rw [Lx.extract_list, List.take_of_length_le (by rw [HL.out]; omega)]
      exact Lx.indexByte_pos (by rw [HL.out]; exact hf)
    generalize Lx.upTo 10 (s.data.toList.drop n) = u at *
    go_enter Try.func113, Try.ntmps113
    go_wp2_with (go_at_call 119; refine (Try.strings_IndexByte _ _ _).mono ?_; rintro e w' ⟨rfl, rfl⟩; rw [show (10 : Int).toNat.toUInt8 = 10 from rfl, R.out])
    go_ret
    exact ⟨rfl, rfl⟩
  · have R : Hid (Lib.indexByte (s.extract n s.size).data.toList 10 = -1) := by
      show _ = _
      rw [Lx.extract_list, List.take_of_length_le (by rw [HL.out]; omega)]
      exact Lx.indexByte_neg (by rw [HL.out]; exact hf)
    generalize Lx.upTo 10 (s.data.toList.drop n) = u at *
    go_enter Try.func113, Try.ntmps113
    go_wp2_with (go_at_call 119; refine (Try.strings_IndexByte _ _ _).mono ?_; rintro e w' ⟨rfl, rfl⟩; rw [show (10 : Int).toNat.toUInt8 = 10 from rfl, R.out])
    go_ret
    exact ⟨ret_int (by omega), rfl⟩

set_option maxHeartbeats 1600000 in
theorem gapEnd_any (s : ByteArray) (a : Int) (w : World) (hs : s.size ≤ maxLen) (h0 : 0 ≤ a) (h1 : a ≤ s.size) :
    Calls Try.prog 108 #[.string s, .int .i64 a] w fun e w' => e = .returned (.int .i64 (a + Lx.gap false (s.data.toList.drop a.toNat))) ∧ w' = w := by
  have hs' := hs
  unfold maxLen at hs
  obtain ⟨n, rfl⟩ := Int.eq_ofNat_of_zero_le h0
  rw [Int.toNat_natCast]
  have hn : n ≤ s.size := by omega
  clear h0 h1
  go_enter Try.func108, Try.ntmps108
  go_wp2
  go_loop [1] (fun i => ∃ k : Nat, k ≤ s.size ∧ i = .int .i64 k ∧ Hid ((k : Int) + Lx.gap false (s.data.toList.drop k) = n + Lx.gap false (s.data.toList.drop n))) (fun i => s.size - (intOf i).toNat)
  case atStart => exact ⟨n, hn, rfl, rfl⟩
  case round =>
    obtain ⟨k, hk, rfl, hE⟩ := hrel
    by_cases hlt : k < s.size
    · have HS : Hid (s.data.toList.drop k = s[k] :: s.data.toList.drop (k + 1)) := Lx.drop_cons s k hlt
      have b1 : ((s[k].toNat : Int) == 32) = (s[k] == 32) := Lx.beqI s[k] 32
      have b2 : ((s[k].toNat : Int) == 9) = (s[k] == 9) := Lx.beqI s[k] 9
      have b3 : ((s[k].toNat : Int) == 10) = (s[k] == 10) := Lx.beqI s[k] 10
      have b4 : ((s[k].toNat : Int) == 35) = (s[k] == 35) := Lx.beqI s[k] 35
      cases q : (s[k] == 32 || s[k] == 9 || s[k] == 10)
      · simp only [Bool.or_eq_false_iff] at q
        obtain ⟨⟨q1, q2⟩, q3⟩ := q
        rw [q1] at b1; rw [q2] at b2; rw [q3] at b3
        cases q4 : (s[k] == 35)
        · rw [q4] at b4
          have R : Hid ((k : Int) = n + Lx.gap false (s.data.toList.drop n)) := by
            have e := hE.out
            rw [HS.out, Lx.gap_else (by simp [q1, q2, q3]) q4] at e
            show _ = _
            omega
          clear hE HS q1 q2 q3 q4
          go_wp2
          go_ret
          exact ⟨ret_int R.out, rfl⟩
        · rw [q4] at b4
          have e := hE.out
          rw [HS.out, Lx.gap_note q4, ← HS.out, List.drop_drop] at e
          have u1 : 1 ≤ Lx.upTo 10 (s.data.toList.drop k) := by rw [HS.out, Lx.upTo_miss q3]; omega
          have u2 : Lx.upTo 10 (s.data.toList.drop k) ≤ s.size - k := by have := Lx.upTo_le 10 (s.data.toList.drop k); simpa using this
          have R : Hid (((k + Lx.upTo 10 (s.data.toList.drop k) : Nat) : Int) + Lx.gap false (s.data.toList.drop (k + Lx.upTo 10 (s.data.toList.drop k))) = n + Lx.gap false (s.data.toList.drop n)) := by
            show _ = _
            omega
          clear hE HS q1 q2 q3 q4 e
          go_wp2_with (go_at_call 113; go_must (refine (noteEnd_any _ _ _ hs' (by omega) (by omega)).mono ?_; rintro e w' ⟨rfl, rfl⟩))
          go_round
          case rel => exact ⟨k + Lx.upTo 10 (s.data.toList.drop k), by omega, by go_num, R⟩
          case measure => simp [intOf]; omega
      · have R : Hid (((k + 1 : Nat) : Int) + Lx.gap false (s.data.toList.drop (k + 1)) = n + Lx.gap false (s.data.toList.drop n)) := by
          have e := hE.out
          rw [HS.out, Lx.gap_blank q] at e
          show _ = _
          omega
        clear hE HS
        cases q1 : (s[k] == 32)
        · cases q2 : (s[k] == 9)
          · have q3 : (s[k] == 10) = true := by simpa [q1, q2] using q
            rw [q1] at b1; rw [q2] at b2; rw [q3] at b3
            clear q q1 q2 q3 b4
            go_wp2
            go_round
            case rel => exact ⟨k + 1, by omega, by go_num, R⟩
            case measure => simp [intOf]; omega
          · rw [q1] at b1; rw [q2] at b2
            clear q q1 q2 b3 b4
            go_wp2
            go_round
            case rel => exact ⟨k + 1, by omega, by go_num, R⟩
            case measure => simp [intOf]; omega
        · rw [q1] at b1
          clear q q1 b2 b3 b4
          go_wp2
          go_round
          case rel => exact ⟨k + 1, by omega, by go_num, R⟩
          case measure => simp [intOf]; omega
    · have R : Hid ((k : Int) = n + Lx.gap false (s.data.toList.drop n)) := by
        have e := hE.out
        rw [List.drop_of_length_le (by simp; omega)] at e
        show _ = _
        simp [Lx.gap] at e
        omega
      clear hE
      go_wp2
      go_ret
      exact ⟨ret_int R.out, rfl⟩
end Go.Proofs.Ytdocbgfpnaiijaa

namespace Go.Proofs.Ytdocbgfpnaiijaa
open Go.RowKit

theorem bcell {W w1 : World} (hb : Below W.heap.size W w1) : (∀ b o, b < W.heap.size → w1.cell? ⟨b, o, none⟩ = W.cell? ⟨b, o, none⟩) ∧ (∀ b o, b < W.heap.size → w1.frozen? ⟨b, o, none⟩ = W.frozen? ⟨b, o, none⟩) :=
  ⟨fun b o h => hb.cell (p := ⟨b, o, none⟩) h, fun b o h => hb.frozen (p := ⟨b, o, none⟩) h⟩

set_option maxHeartbeats 800000 in
theorem name_yes (s : ByteArray) (n L : Nat) (w : World) (hs : s.size ≤ 2000) (hn : n ≤ s.size) (hL : n + L ≤ s.size) (HL : Hid (Lx.nameLen (s.data.toList.drop n) = L))
    (hy : Lx.isName ((s.data.toList.drop n).take L) = true) :
    Calls Try.prog 115 #[.string s, .int .i64 n] w fun e w' => e = .returned (.tuple #[.agg #[.int .i64 1, .string (s.extract n (n + L)), .int .i64 n], .int .i64 (n + L)]) ∧ Below w.heap.size w w' := by
  have hs' : s.size ≤ maxLen := by unfold maxLen; omega
  go_enter Try.func115, Try.ntmps115
  go_wp2_with fail
  refine (nameEnd_any _ _ _ hs' (by omega) (by omega)).mono ?_
  rintro e w' ⟨rfl, rfl⟩
  rw [Int.toNat_natCast, HL.out]
  go_wp2_with fail
  refine (isName_any _ _ ?_).mono ?_
  · simp only [ByteArray.size_extract]; unfold maxLen; omega
  rintro e w' ⟨rfl, rfl⟩
  go_wp2_with fail
  refine (clone_any _ _ ?_).mono ?_
  · simp only [ByteArray.size_extract]; omega
  rintro e w1 ⟨rfl, hb⟩
  obtain ⟨hc, hf⟩ := bcell hb
  have hz : w.heap.size < w1.heap.size := by have := hb.size; simp at this; omega
  have hb0 : Below w.heap.size w w1 := ((Below.refl _ w).alloc (Nat.le_refl _) _).trans (hb.mono (by simp))
  go_wp2
  refine bodyPost_ret (v := .tuple #[.agg #[.int .i64 1, .string (s.extract n (n + L)), .int .i64 n], .int .i64 (n + L)]) (by simp [results, Try.results115, go_sem, hc]) rfl ⟨rfl, ?_⟩
  exact ((hb0.setCell (by exact Nat.le_refl _) _).setCell (by exact Nat.le_refl _) _).setCell (by exact Nat.le_refl _) _

set_option maxHeartbeats 800000 in
theorem name_no (s : ByteArray) (n L : Nat) (w : World) (hs : s.size ≤ 2000) (hn : n ≤ s.size) (hL : n + L ≤ s.size) (HL : Hid (Lx.nameLen (s.data.toList.drop n) = L))
    (hy : Lx.isName ((s.data.toList.drop n).take L) = false) :
    Calls Try.prog 115 #[.string s, .int .i64 n] w fun e w' => e = .panicked [{ v := .iface 56 (.agg #[.int .i64 11, .int .i64 n]), recovered := false }] ∧ Below w.heap.size w w' := by
  have hs' : s.size ≤ maxLen := by unfold maxLen; omega
  go_enter Try.func115, Try.ntmps115
  go_wp2_with fail
  refine (nameEnd_any _ _ _ hs' (by omega) (by omega)).mono ?_
  rintro e w' ⟨rfl, rfl⟩
  rw [Int.toNat_natCast, HL.out]
  go_wp2_with fail
  refine (isName_any _ _ ?_).mono ?_
  · simp only [ByteArray.size_extract]; unfold maxLen; omega
  rintro e w' ⟨rfl, rfl⟩
  go_wp2_with fail
  refine (throw_any _ _).mono ?_
  rintro e w1 ⟨rfl, rfl⟩
  go_wp2
  exact ⟨rfl, rfl, (Below.refl _ w).alloc (Nat.le_refl _) _⟩

set_option maxHeartbeats 800000 in
theorem quote_yes (s : ByteArray) (n L : Nat) (w : World) (hs : s.size ≤ 2000) (hn : n < s.size) (hL : n + 1 + L < s.size) (HL : Hid (Lx.upTo 39 (s.data.toList.drop (n + 1)) = L))
    (hy : Lx.isTerm ((s.data.toList.drop (n + 1)).take L) = true) :
    Calls Try.prog 114 #[.string s, .int .i64 n] w fun e w' => e = .returned (.tuple #[.agg #[.int .i64 2, .string (s.extract (n + 1) (n + 1 + L)), .int .i64 n], .int .i64 (n + 1 + L + 1)]) ∧ Below w.heap.size w w' := by
  have HI : Hid (Lib.indexByte (s.extract (n + 1) s.size).data.toList 39 = L) := by
    show _ = _
    have e : (s.data.toList.drop (n + 1)).length = s.size - (n + 1) := by simp
    rw [Lx.extract_list, List.take_of_length_le (by rw [e]; omega), Lx.indexByte_pos (by rw [HL.out, e]; omega), HL.out]
  go_enter Try.func114, Try.ntmps114
  go_wp2_with fail
  refine (Try.strings_IndexByte _ _ _).mono ?_
  rintro e w' ⟨rfl, rfl⟩
  rw [show (39 : Int).toNat.toUInt8 = 39 from rfl, HI.out]
  have b0 : decide ((L : Int) < 0) = false := by simp
  go_wp2_with fail
  refine (isTerm_any _ _ ?_).mono ?_
  · simp only [ByteArray.size_extract]; unfold maxLen; omega
  rintro e w' ⟨rfl, rfl⟩
  go_wp2_with fail
  refine (clone_any _ _ ?_).mono ?_
  · simp only [ByteArray.size_extract]; omega
  rintro e w1 ⟨rfl, hb⟩
  obtain ⟨hc, hf⟩ := bcell hb
  have hz : w.heap.size < w1.heap.size := by have := hb.size; simp at this; omega
  have hb0 : Below w.heap.size w w1 := ((Below.refl _ w).alloc (Nat.le_refl _) _).trans (hb.mono (by simp))
  go_wp2
  refine bodyPost_ret (v := .tuple #[.agg #[.int .i64 2, .string (s.extract (n + 1) (n + 1 + L)), .int .i64 n], .int .i64 (n + 1 + L + 1)]) (by simp [results, Try.results114, go_sem, hc]) rfl ⟨rfl, ?_⟩
  exact ((hb0.setCell (by exact Nat.le_refl _) _).setCell (by exact Nat.le_refl _) _).setCell (by exact Nat.le_refl _) _

set_option maxHeartbeats 800000 in
theorem quote_open (s : ByteArray) (n : Nat) (w : World) (hs : s.size ≤ 2000) (hn : n < s.size) (hL : s.size - (n + 1) ≤ Lx.upTo 39 (s.data.toList.drop (n + 1))) :
    Calls Try.prog 114 #[.string s, .int .i64 n] w fun e w' => e = .panicked [{ v := .iface 56 (.agg #[.int .i64 11, .int .i64 n]), recovered := false }] ∧ Below w.heap.size w w' := by
  have HI : Hid (Lib.indexByte (s.extract (n + 1) s.size).data.toList 39 = -1) := by
    show _ = _
    have e : (s.data.toList.drop (n + 1)).length = s.size - (n + 1) := by simp
    rw [Lx.extract_list, List.take_of_length_le (by rw [e]; omega), Lx.indexByte_neg (by rw [e]; omega)]
  clear hL
  go_enter Try.func114, Try.ntmps114
  go_wp2_with fail
  refine (Try.strings_IndexByte _ _ _).mono ?_
  rintro e w' ⟨rfl, rfl⟩
  rw [show (39 : Int).toNat.toUInt8 = 39 from rfl, HI.out]
  go_wp2_with fail
  refine (throw_any _ _).mono ?_
  rintro e w1 ⟨rfl, rfl⟩
  go_wp2
  exact ⟨rfl, rfl, (Below.refl _ w).alloc (Nat.le_refl _) _⟩

set_option maxHeartbeats 800000 in
theorem quote_no (s : ByteArray) (n L : Nat) (w : World) (hs : s.size ≤ 2000) (hn : n < s.size) (hL : n + 1 + L < s.size) (HL : Hid (Lx.upTo 39 (s.data.toList.drop (n + 1)) = L))
    (hy : Lx.isTerm ((s.data.toList.drop (n + 1)).take L) = false) :
    Calls Try.prog 114 #[.string s, .int .i64 n] w fun e w' => e = .panicked [{ v := .iface 56 (.agg #[.int .i64 11, .int .i64 n]), recovered := false }] ∧ Below w.heap.size w w' := by
  have HI : Hid (Lib.indexByte (s.extract (n + 1) s.size).data.toList 39 = L) := by
    show _ = _
    have e : (s.data.toList.drop (n + 1)).length = s.size - (n + 1) := by simp
    rw [Lx.extract_list, List.take_of_length_le (by rw [e]; omega), Lx.indexByte_pos (by rw [HL.out, e]; omega), HL.out]
  go_enter Try.func114, Try.ntmps114
  go_wp2_with fail
  refine (Try.strings_IndexByte _ _ _).mono ?_
  rintro e w' ⟨rfl, rfl⟩
  rw [show (39 : Int).toNat.toUInt8 = 39 from rfl, HI.out]
  have b0 : decide ((L : Int) < 0) = false := by simp
  go_wp2_with fail
  refine (isTerm_any _ _ ?_).mono ?_
  · simp only [ByteArray.size_extract]; unfold maxLen; omega
  rintro e w' ⟨rfl, rfl⟩
  go_wp2_with fail
  refine (throw_any _ _).mono ?_
  rintro e w1 ⟨rfl, rfl⟩
  go_wp2
  exact ⟨rfl, rfl, (Below.refl _ w).alloc (Nat.le_refl _) _⟩

/-- what 'token' hands back of a list of bytes: the values; 'none': the fault is thrown -/
def tokVal (t : Nat × List UInt8 × Nat) (n : Nat) : Value := .tuple #[.agg #[.int .i64 t.1, .string ⟨t.2.1.toArray⟩, .int .i64 n], .int .i64 ((n : Int) + t.2.2)]

set_option maxHeartbeats 1600000 in
theorem token_yes (s : ByteArray) (n : Nat) (w : World) (hs : s.size ≤ 2000) (hn : n < s.size) (t : Nat × List UInt8 × Nat) (ht : Hid (Lx.tokenAt (s.data.toList.drop n) = some t)) :
    Calls Try.prog 109 #[.string s, .int .i64 n] w fun e w' => e = .returned (tokVal t n) ∧ Below w.heap.size w w' := by
  have HS : Hid (s.data.toList.drop n = s[n] :: s.data.toList.drop (n + 1)) := Lx.drop_cons s n hn
  have b1 : ((s[n].toNat : Int) == 61) = (s[n] == 61) := Lx.beqI s[n] 61
  have b2 : ((s[n].toNat : Int) == 124) = (s[n] == 124) := Lx.beqI s[n] 124
  have b3 : ((s[n].toNat : Int) == 59) = (s[n] == 59) := Lx.beqI s[n] 59
  have b4 : ((s[n].toNat : Int) == 39) = (s[n] == 39) := Lx.beqI s[n] 39
  have e := ht.out
  rw [HS.out, Lx.tokenAt] at e
  clear ht
  cases q1 : (s[n] == 61)
  · rw [q1] at b1
    rw [if_neg (by simp [q1])] at e
    cases q2 : (s[n] == 124)
    · rw [q2] at b2
      rw [if_neg (by simp [q2])] at e
      cases q3 : (s[n] == 59)
      · rw [q3] at b3
        rw [if_neg (by simp [q3])] at e
        cases q4 : (s[n] == 39)
        · rw [q4] at b4
          rw [if_neg (by simp [q4]), ← HS.out] at e
          have hl := Lx.nameLen_le (s.data.toList.drop n)
          have hLn : (s.data.toList.drop n).length = s.size - n := by simp
          rw [hLn] at hl
          have hy : Lx.isName ((s.data.toList.drop n).takeWhile Lx.mr) = true := by
            cases h : Lx.isName ((s.data.toList.drop n).takeWhile Lx.mr)
            · rw [h] at e; simp at e
            · rfl
          rw [if_pos hy] at e
          obtain ⟨L, HL⟩ : ∃ L, Hid (Lx.nameLen (s.data.toList.drop n) = L) := ⟨_, rfl⟩
          rw [HL.out] at hl
          have HT : Hid ((s.data.toList.drop n).takeWhile Lx.mr = (s.data.toList.drop n).take L) := by
            show _ = _
            rw [← HL.out]; exact (Lx.tw_take _ _).symm
          have HX : Hid (s.extract n (n + L) = ⟨((s.data.toList.drop n).takeWhile Lx.mr).toArray⟩) := Lx.bytes_ext (by rw [Lx.extract_list, HT.out]; congr 1; omega)
          have HM : Hid (((s.data.toList.drop n).takeWhile Lx.mr).length = L) := HL.out
          have HY := name_yes s n L (w.alloc (.cells #[.int .i64 0, .string ⟨#[]⟩, .int .i64 0] 101)) hs (by omega) (by omega) HL (by rw [← HT.out]; exact hy)
          have HYH : Hid (Calls Try.prog 115 #[.string s, .int .i64 n] (w.alloc (.cells #[.int .i64 0, .string ⟨#[]⟩, .int .i64 0] 101)) _) := HY
          cases e
          clear HY q1 q2 q3 q4 HS hy hLn HT
          go_enter Try.func109, Try.ntmps109
          go_wp2_with fail
          refine HYH.out.mono ?_
          rintro e w1 ⟨rfl, hb⟩
          obtain ⟨hc, hf⟩ := bcell hb
          have hz : w.heap.size < w1.heap.size := by have := hb.size; simp at this; omega
          have hb0 : Below w.heap.size w w1 := ((Below.refl _ w).alloc (Nat.le_refl _) _).trans (hb.mono (by simp))
          go_wp2
          refine bodyPost_ret (v := .tuple #[.agg #[.int .i64 1, .string (s.extract n (n + L)), .int .i64 n], .int .i64 (n + L)]) (by simp [results, Try.results109, go_sem, hc]) rfl ⟨?_, ?_⟩
          · unfold tokVal; rw [HX.out, HM.out]; rfl
          · exact ((hb0.setCell (by exact Nat.le_refl _) _).setCell (by exact Nat.le_refl _) _).setCell (by exact Nat.le_refl _) _
        · rw [q4] at b4
          rw [if_pos q4] at e
          have hl := Lx.upTo_le 39 (s.data.toList.drop (n + 1))
          have hLn : (s.data.toList.drop (n + 1)).length = s.size - (n + 1) := by simp
          rw [hLn] at hl
          have hy : ((s.data.toList.drop (n + 1)).takeWhile (fun x => !(x == 39))).length < (s.data.toList.drop (n + 1)).length ∧ Lx.isTerm ((s.data.toList.drop (n + 1)).takeWhile (fun x => !(x == 39))) = true := by
            apply Decidable.byContradiction
            intro h
            rw [if_neg h] at e; cases e
          rw [if_pos hy] at e
          rw [hLn] at hy
          obtain ⟨L, HL⟩ : ∃ L, Hid (Lx.upTo 39 (s.data.toList.drop (n + 1)) = L) := ⟨_, rfl⟩
          have HM : Hid (((s.data.toList.drop (n + 1)).takeWhile (fun x => !(x == 39))).length = L) := HL.out
          rw [HL.out] at hl
          rw [HM.out] at hy
          have HT : Hid ((s.data.toList.drop (n + 1)).takeWhile (fun x => !(x == 39)) = (s.data.toList.drop (n + 1)).take L) := by
            show _ = _
            rw [← HM.out]; exact (Lx.tw_take _ _).symm
          have HX : Hid (s.extract (n + 1) (n + 1 + L) = ⟨((s.data.toList.drop (n + 1)).takeWhile (fun x => !(x == 39))).toArray⟩) := Lx.bytes_ext (by rw [Lx.extract_list, HT.out]; congr 1; omega)
          have HY := quote_yes s n L (w.alloc (.cells #[.int .i64 0, .string ⟨#[]⟩, .int .i64 0] 101)) hs (by omega) (by omega) HL (by rw [← HT.out]; exact hy.2)
          have HYH : Hid (Calls Try.prog 114 #[.string s, .int .i64 n] (w.alloc (.cells #[.int .i64 0, .string ⟨#[]⟩, .int .i64 0] 101)) _) := HY
          have hlt := hy.1
          cases e
          clear HY q1 q2 q3 q4 HS hy hLn HT
          go_enter Try.func109, Try.ntmps109
          go_wp2_with fail
          refine HYH.out.mono ?_
          rintro e w1 ⟨rfl, hb⟩
          obtain ⟨hc, hf⟩ := bcell hb
          have hz : w.heap.size < w1.heap.size := by have := hb.size; simp at this; omega
          have hb0 : Below w.heap.size w w1 := ((Below.refl _ w).alloc (Nat.le_refl _) _).trans (hb.mono (by simp))
          go_wp2
          refine bodyPost_ret (v := .tuple #[.agg #[.int .i64 2, .string (s.extract (n + 1) (n + 1 + L)), .int .i64 n], .int .i64 (n + 1 + L + 1)]) (by simp [results, Try.results109, go_sem, hc]) rfl ⟨?_, ?_⟩
          · unfold tokVal; rw [HX.out, HM.out]
            have e1 : (n : Int) + 1 + L + 1 = n + ((L + 2 : Nat) : Int) := by omega
            rw [e1]; rfl
          · exact ((hb0.setCell (by exact Nat.le_refl _) _).setCell (by exact Nat.le_refl _) _).setCell (by exact Nat.le_refl _) _
      · rw [if_pos q3] at e
        rw [q3] at b3
        cases e
        clear b4 q1 q2 q3 HS
        go_enter Try.func109, Try.ntmps109
        go_wp2
        exact bodyPost_ret (v := .tuple #[.agg #[.int .i64 5, .string ⟨#[59]⟩, .int .i64 n], .int .i64 (n + 1)]) (by simp [results, Try.results109, go_sem]) rfl ⟨rfl, (Below.refl _ w).alloc (Nat.le_refl _) _⟩
    · rw [if_pos q2] at e
      rw [q2] at b2
      cases e
      clear b3 b4 q1 q2 HS
      go_enter Try.func109, Try.ntmps109
      go_wp2
      exact bodyPost_ret (v := .tuple #[.agg #[.int .i64 4, .string ⟨#[124]⟩, .int .i64 n], .int .i64 (n + 1)]) (by simp [results, Try.results109, go_sem]) rfl ⟨rfl, (Below.refl _ w).alloc (Nat.le_refl _) _⟩
  · rw [if_pos q1] at e
    rw [q1] at b1
    cases e
    clear b2 b3 b4 q1 HS
    go_enter Try.func109, Try.ntmps109
    go_wp2
    exact bodyPost_ret (v := .tuple #[.agg #[.int .i64 3, .string ⟨#[61]⟩, .int .i64 n], .int .i64 (n + 1)]) (by simp [results, Try.results109, go_sem]) rfl ⟨rfl, (Below.refl _ w).alloc (Nat.le_refl _) _⟩

set_option maxHeartbeats 1600000 in
theorem token_no (s : ByteArray) (n : Nat) (w : World) (hs : s.size ≤ 2000) (hn : n < s.size) (ht : Hid (Lx.tokenAt (s.data.toList.drop n) = none)) :
    Calls Try.prog 109 #[.string s, .int .i64 n] w fun e w' => e = .panicked [{ v := .iface 56 (.agg #[.int .i64 11, .int .i64 n]), recovered := false }] ∧ Below w.heap.size w w' := by
  have HS : Hid (s.data.toList.drop n = s[n] :: s.data.toList.drop (n + 1)) := Lx.drop_cons s n hn
  have b1 : ((s[n].toNat : Int) == 61) = (s[n] == 61) := Lx.beqI s[n] 61
  have b2 : ((s[n].toNat : Int) == 124) = (s[n] == 124) := Lx.beqI s[n] 124
  have b3 : ((s[n].toNat : Int) == 59) = (s[n] == 59) := Lx.beqI s[n] 59
  have b4 : ((s[n].toNat : Int) == 39) = (s[n] == 39) := Lx.beqI s[n] 39
  have e := ht.out
  rw [HS.out, Lx.tokenAt] at e
  clear ht
  cases q1 : (s[n] == 61)
  · rw [q1] at b1
    rw [if_neg (by simp [q1])] at e
    cases q2 : (s[n] == 124)
    · rw [q2] at b2
      rw [if_neg (by simp [q2])] at e
      cases q3 : (s[n] == 59)
      · rw [q3] at b3
        rw [if_neg (by simp [q3])] at e
        cases q4 : (s[n] == 39)
        · rw [q4] at b4
          rw [if_neg (by simp [q4]), ← HS.out] at e
          have hl := Lx.nameLen_le (s.data.toList.drop n)
          have hLn : (s.data.toList.drop n).length = s.size - n := by simp
          rw [hLn] at hl
          have hy : Lx.isName ((s.data.toList.drop n).takeWhile Lx.mr) = false := by
            cases h : Lx.isName ((s.data.toList.drop n).takeWhile Lx.mr)
            · rfl
            · rw [h] at e; simp at e
          obtain ⟨L, HL⟩ : ∃ L, Hid (Lx.nameLen (s.data.toList.drop n) = L) := ⟨_, rfl⟩
          rw [HL.out] at hl
          have HT : Hid ((s.data.toList.drop n).takeWhile Lx.mr = (s.data.toList.drop n).take L) := by
            show _ = _
            rw [← HL.out]; exact (Lx.tw_take _ _).symm
          have HY := name_no s n L (w.alloc (.cells #[.int .i64 0, .string ⟨#[]⟩, .int .i64 0] 101)) hs (by omega) (by omega) HL (by rw [← HT.out]; exact hy)
          have HYH : Hid (Calls Try.prog 115 #[.string s, .int .i64 n] (w.alloc (.cells #[.int .i64 0, .string ⟨#[]⟩, .int .i64 0] 101)) _) := HY
          clear HY q1 q2 q3 q4 HS hy hLn HT e
          go_enter Try.func109, Try.ntmps109
          go_wp2_with fail
          refine HYH.out.mono ?_
          rintro e w1 ⟨rfl, hb⟩
          have hb0 : Below w.heap.size w w1 := ((Below.refl _ w).alloc (Nat.le_refl _) _).trans (hb.mono (by simp))
          go_wp2
          exact ⟨rfl, rfl, hb0⟩
        · rw [q4] at b4
          rw [if_pos q4] at e
          have hl := Lx.upTo_le 39 (s.data.toList.drop (n + 1))
          have hLn : (s.data.toList.drop (n + 1)).length = s.size - (n + 1) := by simp
          rw [hLn] at hl
          have hy : ¬ (((s.data.toList.drop (n + 1)).takeWhile (fun x => !(x == 39))).length < (s.data.toList.drop (n + 1)).length ∧ Lx.isTerm ((s.data.toList.drop (n + 1)).takeWhile (fun x => !(x == 39))) = true) := by
            intro h
            rw [if_pos h] at e; cases e
          rw [hLn] at hy
          obtain ⟨L, HL⟩ : ∃ L, Hid (Lx.upTo 39 (s.data.toList.drop (n + 1)) = L) := ⟨_, rfl⟩
          have HM : Hid (((s.data.toList.drop (n + 1)).takeWhile (fun x => !(x == 39))).length = L) := HL.out
          rw [HL.out] at hl
          rw [HM.out] at hy
          have HT : Hid ((s.data.toList.drop (n + 1)).takeWhile (fun x => !(x == 39)) = (s.data.toList.drop (n + 1)).take L) := by
            show _ = _
            rw [← HM.out]; exact (Lx.tw_take _ _).symm
          have HY : Calls Try.prog 114 #[.string s, .int .i64 n] (w.alloc (.cells #[.int .i64 0, .string ⟨#[]⟩, .int .i64 0] 101)) fun e w' => e = .panicked [{ v := .iface 56 (.agg #[.int .i64 11, .int .i64 n]), recovered := false }] ∧ Below (w.alloc (.cells #[.int .i64 0, .string ⟨#[]⟩, .int .i64 0] 101)).heap.size (w.alloc (.cells #[.int .i64 0, .string ⟨#[]⟩, .int .i64 0] 101)) w' := by
            by_cases hlt : L < s.size - (n + 1)
            · refine quote_no s n L _ hs hn (by omega) HL ?_
              rw [← HT.out]
              cases h : Lx.isTerm ((s.data.toList.drop (n + 1)).takeWhile (fun x => !(x == 39)))
              · rfl
              · exact absurd ⟨hlt, h⟩ hy
            · exact quote_open s n _ hs hn (by rw [HL.out]; omega)
          have HYH : Hid (Calls Try.prog 114 #[.string s, .int .i64 n] (w.alloc (.cells #[.int .i64 0, .string ⟨#[]⟩, .int .i64 0] 101)) _) := HY
          clear HY q1 q2 q3 q4 HS hy hLn HT e
          go_enter Try.func109, Try.ntmps109
          go_wp2_with fail
          refine HYH.out.mono ?_
          rintro e w1 ⟨rfl, hb⟩
          have hb0 : Below w.heap.size w w1 := ((Below.refl _ w).alloc (Nat.le_refl _) _).trans (hb.mono (by simp))
          go_wp2
          exact ⟨rfl, rfl, hb0⟩
      · rw [if_pos q3] at e; cases e
    · rw [if_pos q2] at e; cases e
  · rw [if_pos q1] at e; cases e
end Go.Proofs.Ytdocbgfpnaiijaa

namespace Go.Proofs.Ytdocbgfpnaiijaa
open Go.RowKit

/-- a token's cells -/
def tokCells (t : Lx.Tok) : List Value := [.int .i64 t.kind, .string ⟨t.text.toArray⟩, .int .i64 t.pos]
def toksCells (ts : List Lx.Tok) : List Value := ts.flatMap tokCells

theorem Try.infoTok : (Try.prog.info? 101).map (fun i => (i.zero, i.size, i.bytes)) = some (some (.agg #[.int .i64 0, .string ⟨#[]⟩, .int .i64 0]), 3, 32) := by kernel_rfl

theorem ownsRow_below {w w' : World} {base : Nat} {e : TypeId} {size : Nat} {v : Value} {n : Nat} {xs : List Value} (h : w.ownsRow base e size v n xs) (hb : Below w.heap.size w w') : w'.ownsRow base e size v n xs := by
  refine ⟨h.1, ?_⟩
  rcases h.2 with hn | ⟨g, cap, cur, rfl, h1, hgg, rest⟩
  · exact .inl hn
  · refine .inr ⟨g, cap, cur, rfl, h1, ?_, rest⟩
    rw [hb.block g (Array.getElem?_eq_some_iff.1 hgg).1]
    exact hgg

theorem ownsRow_shape {w : World} {base : Nat} {e : TypeId} {size : Nat} {v : Value} {n : Nat} {xs : List Value} (h : w.ownsRow base e size v n xs) : ∃ ao k c, v = .slice ao k c := by
  rcases h.2 with ⟨rfl, _⟩ | ⟨g, cap, cur, rfl, _⟩
  · exact ⟨_, _, _, rfl⟩
  · exact ⟨_, _, _, rfl⟩

theorem ownsRow_from {w : World} {base base' : Nat} {e : TypeId} {size : Nat} {v : Value} {n : Nat} {xs : List Value} (h : w.ownsRow base e size v n xs) (hb : base' ≤ base) : w.ownsRow base' e size v n xs := by
  refine ⟨h.1, ?_⟩
  rcases h.2 with hn | ⟨g, cap, cur, hv, h1, rest⟩
  · exact .inl hn
  · exact .inr ⟨g, cap, cur, hv, by omega, rest⟩

theorem cell_three_new (w : World) (a b c : Value) (t : TypeId) : ∀ j u, [a, b, c][j]? = some u → (w.alloc (.cells #[a, b, c] t)).cell? ((⟨w.heap.size, 0, none⟩ : Addr).add j) = some u := by
  intro j u hj
  match j, hj with
  | 0, hj => simp at hj; subst hj; simp [Addr.add]
  | 1, hj => simp at hj; subst hj; simp [Addr.add]
  | 2, hj => simp at hj; subst hj; simp [Addr.add]

theorem toksCells_snoc (acc : List Lx.Tok) (t : Lx.Tok) : toksCells (acc ++ [t]) = toksCells acc ++ tokCells t := by simp [toksCells]

/-- what scan comes to -/
def ScanPost (s : ByteArray) (w : World) (e : Ending) (w' : World) : Prop :=
  Below w.heap.size w w' ∧
  ((∃ ts ao n c, Lx.tokens s.data.toList = .ok ts ∧ e = .returned (.slice ao n c) ∧ w'.ownsRow w.heap.size 101 3 (.slice ao n c) ts.length (toksCells ts)) ∨
   (∃ p, Lx.tokens s.data.toList = .error p ∧ e = .panicked [{ v := .iface 56 (.agg #[.int .i64 11, .int .i64 (p : Nat)]), recovered := false }]))

set_option maxHeartbeats 1600000 in
theorem scan_any (s : ByteArray) (w : World) (hs : s.size ≤ 2000) :
    Calls Try.prog 97 #[.string s] w (ScanPost s w) := by
  have hs' : s.size ≤ maxLen := by unfold maxLen; omega
  obtain ⟨i0, hi, hz0, hz1, hz2⟩ := info_parts Try.infoTok
  have HI : Hid (Try.prog.info? 101 = some i0 ∧ i0.zero = some (.agg #[.int .i64 0, .string ⟨#[]⟩, .int .i64 0]) ∧ i0.size = 3 ∧ i0.bytes = 32) := ⟨hi, hz0, hz1, hz2⟩
  clear hi hz0 hz1 hz2
  have hg := Lx.gap_le false s.data.toList
  have hl : s.data.toList.length = s.size := by simp
  rw [hl] at hg
  have HR : Hid (Lx.tokens s.data.toList = Lx.run (s.size + 1) (s.data.toList.drop (Lx.gap false s.data.toList)) (Lx.gap false s.data.toList)) := by
    show _ = _
    rw [Lx.tokens, hl]
  clear hl
  go_enter Try.func97, Try.ntmps97
  go_wp2_with (go_at_call 108; refine (gapEnd_any _ _ _ hs' (by omega) (by omega)).mono ?_; rintro e W ⟨rfl, rfl⟩)
  go_loopw [3, 4] (fun v i wr => ∃ (k f : Nat) (acc : List Lx.Tok), k ≤ s.size ∧ i = .int .i64 k ∧ s.size < k + f ∧ acc.length ≤ k ∧ Hid (Lx.tokens s.data.toList = Lx.pre acc (Lx.run f (s.data.toList.drop k) k)) ∧
      wr.ownsRow W.heap.size 101 3 v acc.length (toksCells acc) ∧ Below W.heap.size W wr) (fun _ i _ => s.size - (intOf i).toNat)
  case atStart => exact ⟨Lx.gap false s.data.toList, s.size + 1, [], hg, rfl, by omega, by simp, by show _ = _; rw [Lx.pre_nil]; exact HR.out, World.ownsRow_nil _ _ _ _, Below.refl _ _⟩
  case round =>
    obtain ⟨k, f, acc, hk, rfl, hf, ha, hE, hown, hnx⟩ := hrel
    clear HR hg
    by_cases hlt : k < s.size
    · obtain ⟨f, rfl⟩ : ∃ g, f = g + 1 := ⟨f - 1, by omega⟩
      have hne : s.data.toList.drop k ≠ [] := by rw [Lx.drop_cons s k hlt]; simp
      cases ht : Lx.tokenAt (s.data.toList.drop k) with
      | none =>
        have HT : Hid (Lx.tokenAt (s.data.toList.drop k) = none) := ht
        have P : Hid (Lx.tokens s.data.toList = .error k) := by
          show _ = _
          rw [hE.out, Lx.run_none hne ht]; rfl
        clear ht hE hne
        go_wp2_with (go_at_call 109; refine (token_no _ _ _ hs hlt HT).mono ?_; rintro e w1 ⟨rfl, hb⟩)
        exact ⟨rfl, hnx.trans (hb.mono hnx.size), Or.inr ⟨k, P.out, rfl⟩⟩
      | some t =>
        have HT : Hid (Lx.tokenAt (s.data.toList.drop k) = some t) := ht
        have hlen := Lx.tokenAt_len ht
        have hd : (s.data.toList.drop k).length = s.size - k := by simp
        rw [hd] at hlen
        have P := hE.out
        rw [Lx.run_some ht, Lx.pre_pre, List.drop_drop (i := t.2.2), List.drop_drop] at P
        have hgl := Lx.gap_le false (s.data.toList.drop (k + t.2.2))
        have hd2 : (s.data.toList.drop (k + t.2.2)).length = s.size - (k + t.2.2) := by simp
        rw [hd2] at hgl
        have HP : Hid (Lx.tokens s.data.toList = Lx.pre (acc ++ [⟨t.1, t.2.1, k⟩]) (Lx.run f (s.data.toList.drop (k + t.2.2 + Lx.gap false (s.data.toList.drop (k + t.2.2)))) (k + t.2.2 + Lx.gap false (s.data.toList.drop (k + t.2.2))))) := P
        clear ht hE hne hd hd2 P
        obtain ⟨t1, t2, t3⟩ := t
        simp only at hlen hgl HP
        go_wp2_with (first
          | (go_at_call 109; refine (token_yes _ _ _ hs hlt _ HT).mono ?_; rintro e w1 ⟨rfl, hb⟩; unfold tokVal; have hown1 := ownsRow_below hown hb)
          | (at_builtin; refine wpList_append_own _ rfl _ _ 102 rfl W.heap.size 101 i0 (.agg #[.int .i64 0, .string ⟨#[]⟩, .int .i64 0]) 3 32 Try.underlying102 HI.out.1 HI.out.2.1 HI.out.2.2.1 HI.out.2.2.2 rfl (by decide) _ _ _ rfl ((hown1.alloc _).alloc _) ⟨w1.heap.size + 1, 0, none⟩ 1 1 [.int .i64 t1, .string ⟨t2.toArray⟩, .int .i64 k] rfl rfl ?c1 ?c2 ?c3 ?c4 ?c5 ?_)
          | (go_at_call 108; fail))
        case c1 => have := cell_three_new (w1.alloc (.cells #[.int .i64 t1, .string ⟨t2.toArray⟩, .int .i64 k] 101)) (.int .i64 t1) (.string ⟨t2.toArray⟩) (.int .i64 k) 101; simpa using this
        case c2 => intro u hu; simp at hu; rcases hu with rfl | rfl | rfl <;> rfl
        case c3 => unfold maxLen; omega
        case c4 => omega
        case c5 => have := hnx.size; have := hb.size; simp; omega
        intro v' w2 hown2 hgrow _
        have hb2 : Below W.heap.size W w2 := (((hnx.trans (hb.mono hnx.size)).alloc (by have := hnx.size; have := hb.size; omega) _).alloc (by have := hnx.size; have := hb.size; simp; omega) _).grown hgrow (by have := hnx.size; have := hb.size; simp; omega) (fun q hq => (hown.lt q hq).1)
        have hown3 : w2.ownsRow W.heap.size 101 3 v' (acc ++ [(⟨t1, t2, k⟩ : Lx.Tok)]).length (toksCells (acc ++ [⟨t1, t2, k⟩])) := by
          rw [List.length_append, toksCells_snoc]; exact hown2
        clear hown2 hgrow hown1 hown hb hnx HT HI
        go_wp2_with (go_at_call 108; refine (gapEnd_any _ _ _ hs' (by omega) (by omega)).mono ?_; rintro e w3 ⟨rfl, rfl⟩; rw [show ((k : Int) + (t3 : Int)).toNat = k + t3 from by omega])
        go_roundw
        case rel => exact ⟨k + t3 + Lx.gap false (s.data.toList.drop (k + t3)), f, acc ++ [⟨t1, t2, k⟩], by omega, by go_num, by omega, by simp; omega, HP, hown3, hb2⟩
        case measure => simp [intOf]; omega
    · have P : Hid (Lx.tokens s.data.toList = .ok acc) := by
        show _ = _
        obtain ⟨f, rfl⟩ : ∃ g, f = g + 1 := ⟨f - 1, by omega⟩
        rw [hE.out, List.drop_of_length_le (by simp; omega)]; simp [Lx.run, Lx.pre]
      clear hE
      go_wp2
      go_ret
      obtain ⟨ao, n, c, hv⟩ := ownsRow_shape hown
      exact ⟨hnx, Or.inl ⟨acc, ao, n, c, P.out, congrArg Ending.returned hv, hv ▸ hown⟩⟩
end Go.Proofs.Ytdocbgfpnaiijaa

namespace Go.Proofs.Ytdocbgfpnaiijaa
open Go.RowKit

theorem assert_fault (x : Value) (w : World) : (Instr.typeAssert (.iface 56 x) 20 56 true).run Try.prog w = .ok (.tuple #[x, .bool true]) w := by kernel_rfl

set_option maxHeartbeats 400000 in
theorem faultOf_any (a b : Int) (w : World) :
    Calls Try.prog 96 #[.iface 56 (.agg #[.int .i64 a, .int .i64 b])] w fun e w' => e = .returned (.agg #[.int .i64 a, .int .i64 b]) ∧ Below w.heap.size w w' := by
  have hta := assert_fault (.agg #[.int .i64 a, .int .i64 b])
  go_enter Try.func96, Try.ntmps96
  go_wp2
  refine bodyPost_ret (v := .agg #[.int .i64 a, .int .i64 b]) (by simp [results, Try.results96, go_sem]) rfl ⟨rfl, ?_⟩
  exact ((Below.refl _ w).alloc (Nat.le_refl _) _).alloc (by simp) _

set_option maxHeartbeats 800000 in
theorem catch_panicking (B : Nat) (v0 v1 v2 : Value) (a b : Int) (older : List PanicEntry) (w : World)
    (hB : w.cell? ⟨B, 0, none⟩ = some v0) (hBz : w.frozen? ⟨B, 0, none⟩ = false)
    (hC : w.cell? ⟨B + 1, 0, none⟩ = some v1) (hCz : w.frozen? ⟨B + 1, 0, none⟩ = false) (hD : w.cell? ⟨B + 1, 1, none⟩ = some v2) (hDz : w.frozen? ⟨B + 1, 1, none⟩ = false) :
    CallsD Try.prog 95 #[.pointer (some ⟨B, 0, none⟩), .pointer (some ⟨B + 1, 0, none⟩)] (.panicking ({ v := .iface 56 (.agg #[.int .i64 a, .int .i64 b]), recovered := false } :: older)) w fun e u' w' =>
      e = .returned (.tuple #[]) ∧ u' = .panicking ({ v := .iface 56 (.agg #[.int .i64 a, .int .i64 b]), recovered := true } :: older) ∧
      ∃ w1, Below w.heap.size w w1 ∧ w' = ((w1.setCell ⟨B, 0, none⟩ (.slice none 0 0)).setCell ⟨B + 1, 0, none⟩ (.int .i64 a)).setCell ⟨B + 1, 1, none⟩ (.int .i64 b) := by
  refine callsD_of_wpS Try.func95 rfl fun c₀ cs hu => ?_
  apply wpS_seq
  apply wpS_region
  simp [wpOpsS, go_sem, recoverD, hu, Try.ntmps95, Exit.thenS]
  apply wpS_seq
  apply wpS_region
  simp [wpOpsS, go_sem, Exit.thenS]
  refine wpS_cond (t := true) (by simp [Act.eval, Array.replicate]) ?_
  simp only [if_true]
  refine wpS_of_wp ?_
  have ht : (#[Value.pointer (some ⟨B, 0, none⟩), Value.pointer (some ⟨B + 1, 0, none⟩)] ++
          ((((Array.replicate 6 undef).setIfInBounds 1 (Value.iface 56 (Value.agg #[Value.int IntKind.i64 a, Value.int IntKind.i64 b]))).setIfInBounds
                    0 (Value.iface 56 (Value.agg #[Value.int IntKind.i64 a, Value.int IntKind.i64 b]))).setIfInBounds
                2 (Value.iface 56 (Value.agg #[Value.int IntKind.i64 a, Value.int IntKind.i64 b]))).setIfInBounds
            3 (Value.bool true)) = #[Value.pointer (some ⟨B, 0, none⟩), Value.pointer (some ⟨B + 1, 0, none⟩), .iface 56 (.agg #[.int .i64 a, .int .i64 b]), .iface 56 (.agg #[.int .i64 a, .int .i64 b]), .iface 56 (.agg #[.int .i64 a, .int .i64 b]), .bool true, undef, undef] := rfl
  rw [ht]
  clear ht hu
  go_wp2_with fail
  refine (faultOf_any a b _).mono ?_
  rintro e w1 ⟨rfl, hb⟩
  have c1 := cell_later hb hB
  have c2 := cell_later hb hC
  have c3 := cell_later hb hD
  have f1 : w1.frozen? ⟨B, 0, none⟩ = false := (hb.frozen (World.block_lt_of_cell? _ _ hB)).trans hBz
  have f2 : w1.frozen? ⟨B + 1, 0, none⟩ = false := (hb.frozen (World.block_lt_of_cell? _ _ hC)).trans hCz
  have f3 : w1.frozen? ⟨B + 1, 1, none⟩ = false := (hb.frozen (World.block_lt_of_cell? _ _ hD)).trans hDz
  clear hB hC hD hBz hCz hDz
  go_wp2
  simp [bodyPostS, results, Try.results95]
  exact ⟨w1, hb, rfl⟩

set_option maxHeartbeats 800000 in
theorem catch_idle (p q : Addr) (w : World) :
    CallsD Try.prog 95 #[.pointer (some p), .pointer (some q)] .returning w fun e u' w' => e = .returned (.tuple #[]) ∧ u' = .returning ∧ w' = w := by
  refine callsD_of_wpS Try.func95 rfl fun c₀ cs hu => ?_
  apply wpS_seq
  apply wpS_region
  simp [wpOpsS, go_sem, recoverD, hu, Try.ntmps95, Exit.thenS]
  apply wpS_seq
  apply wpS_region
  simp [wpOpsS, go_sem, Exit.thenS]
  refine wpS_cond (t := false) (by simp [Act.eval, Array.replicate]) ?_
  simp only [Bool.false_eq_true, if_false]
  refine wpS_of_wp (wp_skip ?_)
  cases c₀
  simp_all [bodyPostS, results, Try.results95]

/-- the fault's number, its byte, the tokens -/
def tokensG (l : List UInt8) : Int × Int × List Lx.Tok :=
  if 2000 < l.length then (14, 0, []) else match Lx.tokens l with | .ok ts => (0, 0, ts) | .error p => (11, p, [])

/-- what Tokens comes to -/
def TokPost (s : ByteArray) (w : World) (e : Ending) (w' : World) : Prop :=
  Below w.heap.size w w' ∧ ∃ v, e = .returned (.tuple #[v, .agg #[.int .i64 (tokensG s.data.toList).1, .int .i64 (tokensG s.data.toList).2.1]]) ∧
    w'.ownsRow w.heap.size 101 3 v (tokensG s.data.toList).2.2.length (toksCells (tokensG s.data.toList).2.2)

set_option maxHeartbeats 800000 in
theorem tokens_large (s : ByteArray) (w : World) (hs : s.size ≤ maxLen) (h : 2000 < s.size) : Calls Try.prog 76 #[.string s] w (TokPost s w) := by
  unfold maxLen at hs
  have HG : Hid (tokensG s.data.toList = (14, 0, [])) := by show _ = _; rw [tokensG, if_pos (by simpa using h)]
  have hmf : ∀ (fn : Fn) (first cap : Array Value) (w : World), (Instr.makeFunc fn first cap).run Try.prog w = .ok (.func fn first cap) w := fun _ _ _ _ => rfl
  go_enter_defers Try.func76, Try.ntmps76
  go_wp2
  have hb : Below w.heap.size w ((w.alloc (Obj.cells #[Value.slice none 0 0] 102)).alloc (Obj.cells #[Value.int IntKind.i64 14, Value.int IntKind.i64 0] 56)) := ((Below.refl _ w).alloc (Nat.le_refl _) _).alloc (by simp) _
  have P : TokPost s w (.returned (.tuple #[.slice none 0 0, .agg #[.int .i64 14, .int .i64 0]])) ((w.alloc (Obj.cells #[Value.slice none 0 0] 102)).alloc (Obj.cells #[Value.int IntKind.i64 14, Value.int IntKind.i64 0] 56)) := by
    refine ⟨hb, .slice none 0 0, ?_, ?_⟩
    · rw [HG.out]
    · rw [HG.out]; exact World.ownsRow_nil _ _ _ _
  simp [bodyPostD, Leaves, results, Try.results76, go_sem]
  exact P

set_option maxHeartbeats 1600000 in
theorem tokens_small (s : ByteArray) (w : World) (h : s.size ≤ 2000) : Calls Try.prog 76 #[.string s] w (TokPost s w) := by
  have hmf : ∀ (fn : Fn) (first cap : Array Value) (w : World), (Instr.makeFunc fn first cap).run Try.prog w = .ok (.func fn first cap) w := fun _ _ _ _ => rfl
  have hG : tokensG s.data.toList = match Lx.tokens s.data.toList with | .ok ts => (0, 0, ts) | .error p => (11, p, []) := by rw [tokensG, if_neg (by simp; omega)]
  have HG : Hid (tokensG s.data.toList = match Lx.tokens s.data.toList with | .ok ts => (0, 0, ts) | .error p => (11, p, [])) := hG
  clear hG
  go_enter_defers Try.func76, Try.ntmps76
  go_wp2_with fail
  refine (scan_any _ _ h).mono ?_
  rintro e w1 ⟨hb, hcase⟩
  have c0 : w1.cell? ⟨w.heap.size, 0, none⟩ = some (.slice none 0 0) := (hb.cell (by simp; omega)).trans (by simp [go_sem])
  have c1 : w1.cell? ⟨w.heap.size + 1, 0, none⟩ = some (.int .i64 0) := (hb.cell (by simp)).trans (by simp [go_sem])
  have c2 : w1.cell? ⟨w.heap.size + 1, 1, none⟩ = some (.int .i64 0) := (hb.cell (by simp)).trans (by simp [go_sem])
  have f0 : w1.frozen? ⟨w.heap.size, 0, none⟩ = false := (hb.frozen (by simp; omega)).trans (by simp [go_sem])
  have f1 : w1.frozen? ⟨w.heap.size + 1, 0, none⟩ = false := (hb.frozen (by simp)).trans (by simp [go_sem])
  have f2 : w1.frozen? ⟨w.heap.size + 1, 1, none⟩ = false := (hb.frozen (by simp)).trans (by simp [go_sem])
  have hz : w.heap.size + 1 < w1.heap.size := by have := hb.size; simp at this; omega
  have hb0 : Below w.heap.size w w1 := (((Below.refl _ w).alloc (Nat.le_refl _) _).alloc (by simp) _).trans (hb.mono (by simp; omega))
  rcases hcase with ⟨ts, ao, n, c, HT, rfl, hown⟩ | ⟨p, HT, rfl⟩
  · have hG := HG.out
    rw [HT] at hG
    simp only at hG
    have HG2 : Hid (tokensG s.data.toList = (0, 0, ts)) := hG
    clear HT HG hG
    go_wp2
    refine leaves_cons (f := 95) (args := #[.pointer (some ⟨w.heap.size, 0, none⟩), .pointer (some ⟨w.heap.size + 1, 0, none⟩)]) (by simp) (by simp [go_sem]) ?_
    refine (catch_idle ⟨w.heap.size, 0, none⟩ ⟨w.heap.size + 1, 0, none⟩ _).mono ?_
    rintro e u' w'' ⟨rfl, rfl, rfl⟩
    have P : TokPost s w (.returned (.tuple #[.slice ao n c, .agg #[.int .i64 0, .int .i64 0]])) (((w1.setCell ⟨w.heap.size, 0, none⟩ (.slice ao n c)).setCell ⟨w.heap.size + 1, 0, none⟩ (.int .i64 0)).setCell ⟨w.heap.size + 1, 1, none⟩ (.int .i64 0)) := by
      refine ⟨((hb0.setCell (by exact Nat.le_refl _) _).setCell (by exact Nat.le_succ _) _).setCell (by exact Nat.le_succ _) _, .slice ao n c, ?_, ?_⟩
      · rw [HG2.out]
      · rw [HG2.out]
        exact ownsRow_from (ownsRow_setCell_below (ownsRow_setCell_below (ownsRow_setCell_below hown (by simp; omega) _) (by simp) _) (by simp) _) (by simp; omega)
    simp [Leaves, settle, results, Try.results76, go_sem, c0, c1, c2]
    exact P
  · have hG := HG.out
    rw [HT] at hG
    simp only at hG
    have HG2 : Hid (tokensG s.data.toList = ((11 : Int), (p : Int), ([] : List Lx.Tok))) := hG
    clear HT HG hG
    go_wp2
    refine leaves_cons (f := 95) (args := #[.pointer (some ⟨w.heap.size, 0, none⟩), .pointer (some ⟨w.heap.size + 1, 0, none⟩)]) (by simp) (by simp [go_sem]) ?_
    refine (catch_panicking w.heap.size (.slice none 0 0) (.int .i64 0) (.int .i64 0) 11 p [] _ c0 f0 c1 f1 c2 f2).mono ?_
    rintro e u' w'' ⟨rfl, rfl, w2, hb2, rfl⟩
    have hb3 : Below w.heap.size w w2 := hb0.trans (hb2.mono (by omega))
    have P : TokPost s w (.returned (.tuple #[.slice none 0 0, .agg #[.int .i64 11, .int .i64 p]])) (((w2.setCell ⟨w.heap.size, 0, none⟩ (.slice none 0 0)).setCell ⟨w.heap.size + 1, 0, none⟩ (.int .i64 11)).setCell ⟨w.heap.size + 1, 1, none⟩ (.int .i64 p)) := by
      refine ⟨((hb3.setCell (by exact Nat.le_refl _) _).setCell (by exact Nat.le_succ _) _).setCell (by exact Nat.le_succ _) _, .slice none 0 0, ?_, ?_⟩
      · rw [HG2.out]
      · rw [HG2.out]; exact World.ownsRow_nil _ _ _ _
    have d0 := cell_later hb2 c0
    have d1 := cell_later hb2 c1
    have d2 := cell_later hb2 c2
    simp [Leaves, settle, results, Try.results76, go_sem, d0, d1, d2]
    exact P

theorem tokens_any (s : ByteArray) (w : World) (hs : s.size ≤ maxLen) : Calls Try.prog 76 #[.string s] w (TokPost s w) := by
  by_cases h : 2000 < s.size
  · exact tokens_large s w hs h
  · exact tokens_small s w (by omega)
end Go.Proofs.Ytdocbgfpnaiijaa
