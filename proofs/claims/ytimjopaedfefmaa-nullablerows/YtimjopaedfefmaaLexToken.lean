/-
  Layer 1 (lex): name, quote, token: the token that begins at a byte, or the fault that is thrown.
-/
import Derived.Test.YtimjopaedfefmaaLexGap
namespace Go.Proofs.Ytimjopaedfefmaa
open Go.RowKit

theorem bcell {W w1 : World} (hb : Below W.heap.size W w1) : (∀ b o, b < W.heap.size → w1.cell? ⟨b, o, none⟩ = W.cell? ⟨b, o, none⟩) ∧ (∀ b o, b < W.heap.size → w1.frozen? ⟨b, o, none⟩ = W.frozen? ⟨b, o, none⟩) :=
  ⟨fun b o h => hb.cell (p := ⟨b, o, none⟩) h, fun b o h => hb.frozen (p := ⟨b, o, none⟩) h⟩

set_option maxHeartbeats 800000 in
theorem name_yes (s : ByteArray) (n L : Nat) (w : World) (hs : s.size ≤ 2000) (hn : n ≤ s.size) (hL : n + L ≤ s.size) (HL : Hid (Lx.nameLen (s.data.toList.drop n) = L))
    (hy : Lx.isName ((s.data.toList.drop n).take L) = true) :
    Calls Try.prog 86 #[.string s, .int .i64 n] w fun e w' => e = .returned (.tuple #[.agg #[.int .i64 1, .string (s.extract n (n + L)), .int .i64 n], .int .i64 (n + L)]) ∧ Below w.heap.size w w' := by
  have hs' : s.size ≤ maxLen := by unfold maxLen; omega
  go_enter Try.func86, Try.ntmps86
  go_wp2_with fail
  refine (nameEnd_any _ _ _ hs' (by omega) (by omega)).mono ?_
  rintro e w' ⟨rfl, rfl⟩
  rw [Int.toNat_natCast, HL.out]
  go_wp2_with fail
  refine (isName_any _ _ ?_).mono ?_
  · simp only [ByteArray.size_extract]; unfold maxLen; omega
  rintro e w' ⟨rfl, rfl⟩
  go_wp2_with fail
  refine (clone_any _ _ ?_).mono ?_
  · simp only [ByteArray.size_extract]; omega
  rintro e w1 ⟨rfl, hb⟩
  obtain ⟨hc, hf⟩ := bcell hb
  have hz : w.heap.size < w1.heap.size := by have := hb.size; simp at this; omega
  have hb0 : Below w.heap.size w w1 := ((Below.refl _ w).alloc (Nat.le_refl _) _).trans (hb.mono (by simp))
  go_wp2
  refine bodyPost_ret (v := .tuple #[.agg #[.int .i64 1, .string (s.extract n (n + L)), .int .i64 n], .int .i64 (n + L)]) (by simp [results, Try.results86, go_sem, hc]) rfl ⟨rfl, ?_⟩
  exact ((hb0.setCell (by exact Nat.le_refl _) _).setCell (by exact Nat.le_refl _) _).setCell (by exact Nat.le_refl _) _

set_option maxHeartbeats 800000 in
theorem name_no (s : ByteArray) (n L : Nat) (w : World) (hs : s.size ≤ 2000) (hn : n ≤ s.size) (hL : n + L ≤ s.size) (HL : Hid (Lx.nameLen (s.data.toList.drop n) = L))
    (hy : Lx.isName ((s.data.toList.drop n).take L) = false) :
    Calls Try.prog 86 #[.string s, .int .i64 n] w fun e w' => e = .panicked [{ v := .iface 29 (.agg #[.int .i64 11, .int .i64 n]), recovered := false }] ∧ Below w.heap.size w w' := by
  have hs' : s.size ≤ maxLen := by unfold maxLen; omega
  go_enter Try.func86, Try.ntmps86
  go_wp2_with fail
  refine (nameEnd_any _ _ _ hs' (by omega) (by omega)).mono ?_
  rintro e w' ⟨rfl, rfl⟩
  rw [Int.toNat_natCast, HL.out]
  go_wp2_with fail
  refine (isName_any _ _ ?_).mono ?_
  · simp only [ByteArray.size_extract]; unfold maxLen; omega
  rintro e w' ⟨rfl, rfl⟩
  go_wp2_with fail
  refine (throw_any _ _).mono ?_
  rintro e w1 ⟨rfl, rfl⟩
  go_wp2
  exact ⟨rfl, rfl, (Below.refl _ w).alloc (Nat.le_refl _) _⟩

set_option maxHeartbeats 800000 in
theorem quote_yes (s : ByteArray) (n L : Nat) (w : World) (hs : s.size ≤ 2000) (hn : n < s.size) (hL : n + 1 + L < s.size) (HL : Hid (Lx.upTo 39 (s.data.toList.drop (n + 1)) = L))
    (hy : Lx.isTerm ((s.data.toList.drop (n + 1)).take L) = true) :
    Calls Try.prog 85 #[.string s, .int .i64 n] w fun e w' => e = .returned (.tuple #[.agg #[.int .i64 2, .string (s.extract (n + 1) (n + 1 + L)), .int .i64 n], .int .i64 (n + 1 + L + 1)]) ∧ Below w.heap.size w w' := by
  have HI : Hid (Lib.indexByte (s.extract (n + 1) s.size).data.toList 39 = L) := by
    show _ = _
    have e : (s.data.toList.drop (n + 1)).length = s.size - (n + 1) := by simp
    rw [Lx.extract_list, List.take_of_length_le (by rw [e]; omega), Lx.indexByte_pos (by rw [HL.out, e]; omega), HL.out]
  go_enter Try.func85, Try.ntmps85
  go_wp2_with fail
  refine (Try.strings_IndexByte _ _ _).mono ?_
  rintro e w' ⟨rfl, rfl⟩
  rw [show (39 : Int).toNat.toUInt8 = 39 from rfl, HI.out]
  have b0 : decide ((L : Int) < 0) = false := by simp
  go_wp2_with fail
  refine (isTerm_any _ _ ?_).mono ?_
  · simp only [ByteArray.size_extract]; unfold maxLen; omega
  rintro e w' ⟨rfl, rfl⟩
  go_wp2_with fail
  refine (clone_any _ _ ?_).mono ?_
  · simp only [ByteArray.size_extract]; omega
  rintro e w1 ⟨rfl, hb⟩
  obtain ⟨hc, hf⟩ := bcell hb
  have hz : w.heap.size < w1.heap.size := by have := hb.size; simp at this; omega
  have hb0 : Below w.heap.size w w1 := ((Below.refl _ w).alloc (Nat.le_refl _) _).trans (hb.mono (by simp))
  go_wp2
  refine bodyPost_ret (v := .tuple #[.agg #[.int .i64 2, .string (s.extract (n + 1) (n + 1 + L)), .int .i64 n], .int .i64 (n + 1 + L + 1)]) (by simp [results, Try.results85, go_sem, hc]) rfl ⟨rfl, ?_⟩
  exact ((hb0.setCell (by exact Nat.le_refl _) _).setCell (by exact Nat.le_refl _) _).setCell (by exact Nat.le_refl _) _

set_option maxHeartbeats 800000 in
theorem quote_open (s : ByteArray) (n : Nat) (w : World) (hs : s.size ≤ 2000) (hn : n < s.size) (hL : s.size - (n + 1) ≤ Lx.upTo 39 (s.data.toList.drop (n + 1))) :
    Calls Try.prog 85 #[.string s, .int .i64 n] w fun e w' => e = .panicked [{ v := .iface 29 (.agg #[.int .i64 11, .int .i64 n]), recovered := false }] ∧ Below w.heap.size w w' := by
  have HI : Hid (Lib.indexByte (s.extract (n + 1) s.size).data.toList 39 = -1) := by
    show _ = _
    have e : (s.data.toList.drop (n + 1)).length = s.size - (n + 1) := by simp
    rw [Lx.extract_list, List.take_of_length_le (by rw [e]; omega), Lx.indexByte_neg (by rw [e]; omega)]
  clear hL
  go_enter Try.func85, Try.ntmps85
  go_wp2_with fail
  refine (Try.strings_IndexByte _ _ _).mono ?_
  rintro e w' ⟨rfl, rfl⟩
  rw [show (39 : Int).toNat.toUInt8 = 39 from rfl, HI.out]
  go_wp2_with fail
  refine (throw_any _ _).mono ?_
  rintro e w1 ⟨rfl, rfl⟩
  go_wp2
  exact ⟨rfl, rfl, (Below.refl _ w).alloc (Nat.le_refl _) _⟩

set_option maxHeartbeats 800000 in
theorem quote_no (s : ByteArray) (n L : Nat) (w : World) (hs : s.size ≤ 2000) (hn : n < s.size) (hL : n + 1 + L < s.size) (HL : Hid (Lx.upTo 39 (s.data.toList.drop (n + 1)) = L))
    (hy : Lx.isTerm ((s.data.toList.drop (n + 1)).take L) = false) :
    Calls Try.prog 85 #[.string s, .int .i64 n] w fun e w' => e = .panicked [{ v := .iface 29 (.agg #[.int .i64 11, .int .i64 n]), recovered := false }] ∧ Below w.heap.size w w' := by
  have HI : Hid (Lib.indexByte (s.extract (n + 1) s.size).data.toList 39 = L) := by
    show _ = _
    have e : (s.data.toList.drop (n + 1)).length = s.size - (n + 1) := by simp
    rw [Lx.extract_list, List.take_of_length_le (by rw [e]; omega), Lx.indexByte_pos (by rw [HL.out, e]; omega), HL.out]
  go_enter Try.func85, Try.ntmps85
  go_wp2_with fail
  refine (Try.strings_IndexByte _ _ _).mono ?_
  rintro e w' ⟨rfl, rfl⟩
  rw [show (39 : Int).toNat.toUInt8 = 39 from rfl, HI.out]
  have b0 : decide ((L : Int) < 0) = false := by simp
  go_wp2_with fail
  refine (isTerm_any _ _ ?_).mono ?_
  · simp only [ByteArray.size_extract]; unfold maxLen; omega
  rintro e w' ⟨rfl, rfl⟩
  go_wp2_with fail
  refine (throw_any _ _).mono ?_
  rintro e w1 ⟨rfl, rfl⟩
  go_wp2
  exact ⟨rfl, rfl, (Below.refl _ w).alloc (Nat.le_refl _) _⟩

/-- what 'token' hands back of a list of bytes: the values; 'none': the fault is thrown -/
def tokVal (t : Nat × List UInt8 × Nat) (n : Nat) : Value := .tuple #[.agg #[.int .i64 t.1, .string ⟨t.2.1.toArray⟩, .int .i64 n], .int .i64 ((n : Int) + t.2.2)]

set_option maxHeartbeats 1600000 in
theorem token_yes (s : ByteArray) (n : Nat) (w : World) (hs : s.size ≤ 2000) (hn : n < s.size) (t : Nat × List UInt8 × Nat) (ht : Hid (Lx.tokenAt (s.data.toList.drop n) = some t)) :
    Calls Try.prog 63 #[.string s, .int .i64 n] w fun e w' => e = .returned (tokVal t n) ∧ Below w.heap.size w w' := by
  have HS : Hid (s.data.toList.drop n = s[n] :: s.data.toList.drop (n + 1)) := Lx.drop_cons s n hn
  have b1 : ((s[n].toNat : Int) == 61) = (s[n] == 61) := Lx.beqI s[n] 61
  have b2 : ((s[n].toNat : Int) == 124) = (s[n] == 124) := Lx.beqI s[n] 124
  have b3 : ((s[n].toNat : Int) == 59) = (s[n] == 59) := Lx.beqI s[n] 59
  have b4 : ((s[n].toNat : Int) == 39) = (s[n] == 39) := Lx.beqI s[n] 39
  have e := ht.out
  rw [HS.out, Lx.tokenAt] at e
  clear ht
  cases q1 : (s[n] == 61)
  · rw [q1] at b1
    rw [if_neg (by simp [q1])] at e
    cases q2 : (s[n] == 124)
    · rw [q2] at b2
      rw [if_neg (by simp [q2])] at e
      cases q3 : (s[n] == 59)
      · rw [q3] at b3
        rw [if_neg (by simp [q3])] at e
        cases q4 : (s[n] == 39)
        · rw [q4] at b4
          rw [if_neg (by simp [q4]), ← HS.out] at e
          have hl := Lx.nameLen_le (s.data.toList.drop n)
          have hLn : (s.data.toList.drop n).length = s.size - n := by simp
          rw [hLn] at hl
          have hy : Lx.isName ((s.data.toList.drop n).takeWhile Lx.mr) = true := by
            cases h : Lx.isName ((s.data.toList.drop n).takeWhile Lx.mr)
            · rw [h] at e; simp at e
            · rfl
          rw [if_pos hy] at e
          obtain ⟨L, HL⟩ : ∃ L, Hid (Lx.nameLen (s.data.toList.drop n) = L) := ⟨_, rfl⟩
          rw [HL.out] at hl
          have HT : Hid ((s.data.toList.drop n).takeWhile Lx.mr = (s.data.toList.drop n).take L) := by
            show _ = _
            rw [← HL.out]; exact (Lx.tw_take _ _).symm
          have HX : Hid (s.extract n (n + L) = ⟨((s.data.toList.drop n).takeWhile Lx.mr).toArray⟩) := Lx.bytes_ext (by rw [Lx.extract_list, HT.out]; congr 1; omega)
          have HM : Hid (((s.data.toList.drop n).takeWhile Lx.mr).length = L) := HL.out
          have HY := name_yes s n L (w.alloc (.cells #[.int .i64 0, .string ⟨#[]⟩, .int .i64 0] 37)) hs (by omega) (by omega) HL (by rw [← HT.out]; exact hy)
          have HYH : Hid (Calls Try.prog 86 #[.string s, .int .i64 n] (w.alloc (.cells #[.int .i64 0, .string ⟨#[]⟩, .int .i64 0] 37)) _) := HY
          cases e
          clear HY q1 q2 q3 q4 HS hy hLn HT
          go_enter Try.func63, Try.ntmps63
          go_wp2_with fail
          refine HYH.out.mono ?_
          rintro e w1 ⟨rfl, hb⟩
          obtain ⟨hc, hf⟩ := bcell hb
          have hz : w.heap.size < w1.heap.size := by have := hb.size; simp at this; omega
          have hb0 : Below w.heap.size w w1 := ((Below.refl _ w).alloc (Nat.le_refl _) _).trans (hb.mono (by simp))
          go_wp2
          refine bodyPost_ret (v := .tuple #[.agg #[.int .i64 1, .string (s.extract n (n + L)), .int .i64 n], .int .i64 (n + L)]) (by simp [results, Try.results63, go_sem, hc]) rfl ⟨?_, ?_⟩
          · unfold tokVal; rw [HX.out, HM.out]; rfl
          · exact ((hb0.setCell (by exact Nat.le_refl _) _).setCell (by exact Nat.le_refl _) _).setCell (by exact Nat.le_refl _) _
        · rw [q4] at b4
          rw [if_pos q4] at e
          have hl := Lx.upTo_le 39 (s.data.toList.drop (n + 1))
          have hLn : (s.data.toList.drop (n + 1)).length = s.size - (n + 1) := by simp
          rw [hLn] at hl
          have hy : ((s.data.toList.drop (n + 1)).takeWhile (fun x => !(x == 39))).length < (s.data.toList.drop (n + 1)).length ∧ Lx.isTerm ((s.data.toList.drop (n + 1)).takeWhile (fun x => !(x == 39))) = true := by
            apply Decidable.byContradiction
            intro h
            rw [if_neg h] at e; cases e
          rw [if_pos hy] at e
          rw [hLn] at hy
          obtain ⟨L, HL⟩ : ∃ L, Hid (Lx.upTo 39 (s.data.toList.drop (n + 1)) = L) := ⟨_, rfl⟩
          have HM : Hid (((s.data.toList.drop (n + 1)).takeWhile (fun x => !(x == 39))).length = L) := HL.out
          rw [HL.out] at hl
          rw [HM.out] at hy
          have HT : Hid ((s.data.toList.drop (n + 1)).takeWhile (fun x => !(x == 39)) = (s.data.toList.drop (n + 1)).take L) := by
            show _ = _
            rw [← HM.out]; exact (Lx.tw_take _ _).symm
          have HX : Hid (s.extract (n + 1) (n + 1 + L) = ⟨((s.data.toList.drop (n + 1)).takeWhile (fun x => !(x == 39))).toArray⟩) := Lx.bytes_ext (by rw [Lx.extract_list, HT.out]; congr 1; omega)
          have HY := quote_yes s n L (w.alloc (.cells #[.int .i64 0, .string ⟨#[]⟩, .int .i64 0] 37)) hs (by omega) (by omega) HL (by rw [← HT.out]; exact hy.2)
          have HYH : Hid (Calls Try.prog 85 #[.string s, .int .i64 n] (w.alloc (.cells #[.int .i64 0, .string ⟨#[]⟩, .int .i64 0] 37)) _) := HY
          have hlt := hy.1
          cases e
          clear HY q1 q2 q3 q4 HS hy hLn HT
          go_enter Try.func63, Try.ntmps63
          go_wp2_with fail
          refine HYH.out.mono ?_
          rintro e w1 ⟨rfl, hb⟩
          obtain ⟨hc, hf⟩ := bcell hb
          have hz : w.heap.size < w1.heap.size := by have := hb.size; simp at this; omega
          have hb0 : Below w.heap.size w w1 := ((Below.refl _ w).alloc (Nat.le_refl _) _).trans (hb.mono (by simp))
          go_wp2
          refine bodyPost_ret (v := .tuple #[.agg #[.int .i64 2, .string (s.extract (n + 1) (n + 1 + L)), .int .i64 n], .int .i64 (n + 1 + L + 1)]) (by simp [results, Try.results63, go_sem, hc]) rfl ⟨?_, ?_⟩
          · unfold tokVal; rw [HX.out, HM.out]
            have e1 : (n : Int) + 1 + L + 1 = n + ((L + 2 : Nat) : Int) := by omega
            rw [e1]; rfl
          · exact ((hb0.setCell (by exact Nat.le_refl _) _).setCell (by exact Nat.le_refl _) _).setCell (by exact Nat.le_refl _) _
      · rw [if_pos q3] at e
        rw [q3] at b3
        cases e
        clear b4 q1 q2 q3 HS
        go_enter Try.func63, Try.ntmps63
        go_wp2
        exact bodyPost_ret (v := .tuple #[.agg #[.int .i64 5, .string ⟨#[59]⟩, .int .i64 n], .int .i64 (n + 1)]) (by simp [results, Try.results63, go_sem]) rfl ⟨rfl, (Below.refl _ w).alloc (Nat.le_refl _) _⟩
    · rw [if_pos q2] at e
      rw [q2] at b2
      cases e
      clear b3 b4 q1 q2 HS
      go_enter Try.func63, Try.ntmps63
      go_wp2
      exact bodyPost_ret (v := .tuple #[.agg #[.int .i64 4, .string ⟨#[124]⟩, .int .i64 n], .int .i64 (n + 1)]) (by simp [results, Try.results63, go_sem]) rfl ⟨rfl, (Below.refl _ w).alloc (Nat.le_refl _) _⟩
  · rw [if_pos q1] at e
    rw [q1] at b1
    cases e
    clear b2 b3 b4 q1 HS
    go_enter Try.func63, Try.ntmps63
    go_wp2
    exact bodyPost_ret (v := .tuple #[.agg #[.int .i64 3, .string ⟨#[61]⟩, .int .i64 n], .int .i64 (n + 1)]) (by simp [results, Try.results63, go_sem]) rfl ⟨rfl, (Below.refl _ w).alloc (Nat.le_refl _) _⟩

set_option maxHeartbeats 1600000 in
theorem token_no (s : ByteArray) (n : Nat) (w : World) (hs : s.size ≤ 2000) (hn : n < s.size) (ht : Hid (Lx.tokenAt (s.data.toList.drop n) = none)) :
    Calls Try.prog 63 #[.string s, .int .i64 n] w fun e w' => e = .panicked [{ v := .iface 29 (.agg #[.int .i64 11, .int .i64 n]), recovered := false }] ∧ Below w.heap.size w w' := by
  have HS : Hid (s.data.toList.drop n = s[n] :: s.data.toList.drop (n + 1)) := Lx.drop_cons s n hn
  have b1 : ((s[n].toNat : Int) == 61) = (s[n] == 61) := Lx.beqI s[n] 61
  have b2 : ((s[n].toNat : Int) == 124) = (s[n] == 124) := Lx.beqI s[n] 124
  have b3 : ((s[n].toNat : Int) == 59) = (s[n] == 59) := Lx.beqI s[n] 59
  have b4 : ((s[n].toNat : Int) == 39) = (s[n] == 39) := Lx.beqI s[n] 39
  have e := ht.out
  rw [HS.out, Lx.tokenAt] at e
  clear ht
  cases q1 : (s[n] == 61)
  · rw [q1] at b1
    rw [if_neg (by simp [q1])] at e
    cases q2 : (s[n] == 124)
    · rw [q2] at b2
      rw [if_neg (by simp [q2])] at e
      cases q3 : (s[n] == 59)
      · rw [q3] at b3
        rw [if_neg (by simp [q3])] at e
        cases q4 : (s[n] == 39)
        · rw [q4] at b4
          rw [if_neg (by simp [q4]), ← HS.out] at e
          have hl := Lx.nameLen_le (s.data.toList.drop n)
          have hLn : (s.data.toList.drop n).length = s.size - n := by simp
          rw [hLn] at hl
          have hy : Lx.isName ((s.data.toList.drop n).takeWhile Lx.mr) = false := by
            cases h : Lx.isName ((s.data.toList.drop n).takeWhile Lx.mr)
            · rfl
            · rw [h] at e; simp at e
          obtain ⟨L, HL⟩ : ∃ L, Hid (Lx.nameLen (s.data.toList.drop n) = L) := ⟨_, rfl⟩
          rw [HL.out] at hl
          have HT : Hid ((s.data.toList.drop n).takeWhile Lx.mr = (s.data.toList.drop n).take L) := by
            show _ = _
            rw [← HL.out]; exact (Lx.tw_take _ _).symm
          have HY := name_no s n L (w.alloc (.cells #[.int .i64 0, .string ⟨#[]⟩, .int .i64 0] 37)) hs (by omega) (by omega) HL (by rw [← HT.out]; exact hy)
          have HYH : Hid (Calls Try.prog 86 #[.string s, .int .i64 n] (w.alloc (.cells #[.int .i64 0, .string ⟨#[]⟩, .int .i64 0] 37)) _) := HY
          clear HY q1 q2 q3 q4 HS hy hLn HT e
          go_enter Try.func63, Try.ntmps63
          go_wp2_with fail
          refine HYH.out.mono ?_
          rintro e w1 ⟨rfl, hb⟩
          have hb0 : Below w.heap.size w w1 := ((Below.refl _ w).alloc (Nat.le_refl _) _).trans (hb.mono (by simp))
          go_wp2
          exact ⟨rfl, rfl, hb0⟩
        · rw [q4] at b4
          rw [if_pos q4] at e
          have hl := Lx.upTo_le 39 (s.data.toList.drop (n + 1))
          have hLn : (s.data.toList.drop (n + 1)).length = s.size - (n + 1) := by simp
          rw [hLn] at hl
          have hy : ¬ (((s.data.toList.drop (n + 1)).takeWhile (fun x => !(x == 39))).length < (s.data.toList.drop (n + 1)).length ∧ Lx.isTerm ((s.data.toList.drop (n + 1)).takeWhile (fun x => !(x == 39))) = true) := by
            intro h
            rw [if_pos h] at e; cases e
          rw [hLn] at hy
          obtain ⟨L, HL⟩ : ∃ L, Hid (Lx.upTo 39 (s.data.toList.drop (n + 1)) = L) := ⟨_, rfl⟩
          have HM : Hid (((s.data.toList.drop (n + 1)).takeWhile (fun x => !(x == 39))).length = L) := HL.out
          rw [HL.out] at hl
          rw [HM.out] at hy
          have HT : Hid ((s.data.toList.drop (n + 1)).takeWhile (fun x => !(x == 39)) = (s.data.toList.drop (n + 1)).take L) := by
            show _ = _
            rw [← HM.out]; exact (Lx.tw_take _ _).symm
          have HY : Calls Try.prog 85 #[.string s, .int .i64 n] (w.alloc (.cells #[.int .i64 0, .string ⟨#[]⟩, .int .i64 0] 37)) fun e w' => e = .panicked [{ v := .iface 29 (.agg #[.int .i64 11, .int .i64 n]), recovered := false }] ∧ Below (w.alloc (.cells #[.int .i64 0, .string ⟨#[]⟩, .int .i64 0] 37)).heap.size (w.alloc (.cells #[.int .i64 0, .string ⟨#[]⟩, .int .i64 0] 37)) w' := by
            by_cases hlt : L < s.size - (n + 1)
            · refine quote_no s n L _ hs hn (by omega) HL ?_
              rw [← HT.out]
              cases h : Lx.isTerm ((s.data.toList.drop (n + 1)).takeWhile (fun x => !(x == 39)))
              · rfl
              · exact absurd ⟨hlt, h⟩ hy
            · exact quote_open s n _ hs hn (by rw [HL.out]; omega)
          have HYH : Hid (Calls Try.prog 85 #[.string s, .int .i64 n] (w.alloc (.cells #[.int .i64 0, .string ⟨#[]⟩, .int .i64 0] 37)) _) := HY
          clear HY q1 q2 q3 q4 HS hy hLn HT e
          go_enter Try.func63, Try.ntmps63
          go_wp2_with fail
          refine HYH.out.mono ?_
          rintro e w1 ⟨rfl, hb⟩
          have hb0 : Below w.heap.size w w1 := ((Below.refl _ w).alloc (Nat.le_refl _) _).trans (hb.mono (by simp))
          go_wp2
          exact ⟨rfl, rfl, hb0⟩
      · rw [if_pos q3] at e; cases e
    · rw [if_pos q2] at e; cases e
  · rw [if_pos q1] at e; cases e
end Go.Proofs.Ytimjopaedfefmaa
