/-
  Layer 1 (lex): what the small functions answer: isLetter, isDigit, nameEnd, IsName, IsTerm. They only read.
-/
import Derived.Test.YtdocbgfpnaiijaaRows
import Derived.Test.YtdocbgfpnaiijaaLexMath
import Derived.WalkKit
import Derived.WalkSpells
import Derived.WalkLawsBesides
namespace Go.Proofs.Ytdocbgfpnaiijaa
open Go.RowKit

theorem ret_bool {a b : Bool} (h : a = b) : Ending.returned (.bool a) = .returned (.bool b) := by rw [h]
theorem ret_int {k : IntKind} {a b : Int} (h : a = b) : Ending.returned (.int k a) = .returned (.int k b) := by rw [h]

set_option maxHeartbeats 400000 in
theorem isLetter_any (c : UInt8) (w : World) :
    Calls Try.prog 83 #[.int .u8 c.toNat] w fun e w' => e = .returned (.bool (Lx.lt c)) ∧ w' = w := by
  have HC : Hid (Lx.lt c = _) := Lx.lt_eq c
  go_enter Try.func83, Try.ntmps83
  go_wp2
  all_goals go_ret
  all_goals refine ⟨ret_bool ?_, rfl⟩
  all_goals (rw [HC.out, Bool.eq_iff_iff]; simp <;> omega)

set_option maxHeartbeats 400000 in
theorem isDigit_any (c : UInt8) (w : World) :
    Calls Try.prog 103 #[.int .u8 c.toNat] w fun e w' => e = .returned (.bool (Lx.dg c)) ∧ w' = w := by
  have HC : Hid (Lx.dg c = _) := Lx.dg_eq c
  go_enter Try.func103, Try.ntmps103
  go_wp2
  all_goals go_ret
  all_goals refine ⟨ret_bool ?_, rfl⟩
  all_goals (rw [HC.out, Bool.eq_iff_iff]; simp <;> omega)

set_option maxHeartbeats 800000 in
theorem nameEnd_any (s : ByteArray) (a : Int) (w : World) (hs : s.size ≤ maxLen) (h0 : 0 ≤ a) (h1 : a ≤ s.size) :
    Calls Try.prog 84 #[.string s, .int .i64 a] w fun e w' => e = .returned (.int .i64 (a + Lx.nameLen (s.data.toList.drop a.toNat))) ∧ w' = w := by
  unfold maxLen at hs
  obtain ⟨n, rfl⟩ := Int.eq_ofNat_of_zero_le h0
  rw [Int.toNat_natCast]
  have hn : n ≤ s.size := by omega
  clear h0 h1
  go_enter Try.func84, Try.ntmps84
  go_wp2
  go_loop [1] (fun i => ∃ k : Nat, k ≤ s.size ∧ i = .int .i64 k ∧ Hid ((k : Int) + Lx.nameLen (s.data.toList.drop k) = n + Lx.nameLen (s.data.toList.drop n))) (fun i => s.size - (intOf i).toNat)
  case atStart => exact ⟨n, hn, rfl, rfl⟩
  case round =>
    obtain ⟨k, hk, rfl, hE⟩ := hrel
    by_cases hlt : k < s.size
    · have HS : Hid (s.data.toList.drop k = s[k] :: s.data.toList.drop (k + 1)) := Lx.drop_cons s k hlt
      have HQ : Hid ((s[k] == 95) = decide ((s[k].toNat : Int) = 95)) := Lx.eq_nat s[k] 95
      have yes : Lx.mr s[k] = true → Hid (((k + 1 : Nat) : Int) + Lx.nameLen (s.data.toList.drop (k + 1)) = n + Lx.nameLen (s.data.toList.drop n)) := fun h => by
        have e := hE.out
        rw [HS.out, Lx.nameLen_yes h] at e
        show _ = _
        omega
      have no : Lx.mr s[k] = false → Hid ((k : Int) = n + Lx.nameLen (s.data.toList.drop n)) := fun h => by
        have e := hE.out
        rw [HS.out, Lx.nameLen_no h] at e
        show _ = _
        omega
      have Y : Hid (Lx.mr s[k] = true → Hid (((k + 1 : Nat) : Int) + Lx.nameLen (s.data.toList.drop (k + 1)) = n + Lx.nameLen (s.data.toList.drop n))) := yes
      have N : Hid (Lx.mr s[k] = false → Hid ((k : Int) = n + Lx.nameLen (s.data.toList.drop n))) := no
      clear yes no hE HS
      cases h1 : Lx.lt s[k]
      · cases h2 : Lx.dg s[k]
        · by_cases h3 : ((s[k].toNat : Int) == 95) = true
          · have R := Y.out (by rw [Lx.mr, h1, h2, HQ.out]; simpa using h3)
            go_wp2_with (first | (go_at_call 83; refine (isLetter_any _ _).mono ?_; rintro e w' ⟨rfl, rfl⟩) | (go_at_call 103; refine (isDigit_any _ _).mono ?_; rintro e w' ⟨rfl, rfl⟩))
            go_round
            case rel => exact ⟨k + 1, by omega, by go_num, R⟩
            case measure => simp [intOf]; omega
          · have h3' : ((s[k].toNat : Int) == 95) = false := by simpa using h3
            have R := N.out (by rw [Lx.mr, h1, h2, HQ.out]; simpa using h3)
            go_wp2_with (first | (go_at_call 83; refine (isLetter_any _ _).mono ?_; rintro e w' ⟨rfl, rfl⟩) | (go_at_call 103; refine (isDigit_any _ _).mono ?_; rintro e w' ⟨rfl, rfl⟩))
            go_ret
            exact ⟨ret_int R.out, rfl⟩
        · have R := Y.out (by rw [Lx.mr, h1, h2]; rfl)
          go_wp2_with (first | (go_at_call 83; refine (isLetter_any _ _).mono ?_; rintro e w' ⟨rfl, rfl⟩) | (go_at_call 103; refine (isDigit_any _ _).mono ?_; rintro e w' ⟨rfl, rfl⟩))
          go_round
          case rel => exact ⟨k + 1, by omega, by go_num, R⟩
          case measure => simp [intOf]; omega
      · have R := Y.out (by rw [Lx.mr, h1]; rfl)
        go_wp2_with (first | (go_at_call 83; refine (isLetter_any _ _).mono ?_; rintro e w' ⟨rfl, rfl⟩) | (go_at_call 103; refine (isDigit_any _ _).mono ?_; rintro e w' ⟨rfl, rfl⟩))
        go_round
        case rel => exact ⟨k + 1, by omega, by go_num, R⟩
        case measure => simp [intOf]; omega
    · have R : Hid ((k : Int) = n + Lx.nameLen (s.data.toList.drop n)) := by
        have e := hE.out
        rw [List.drop_of_length_le (by simp; omega), Lx.nameLen_nil] at e
        show _ = _
        omega
      clear hE
      go_wp2
      go_ret
      exact ⟨ret_int R.out, rfl⟩

set_option maxHeartbeats 800000 in
theorem isName_any (s : ByteArray) (w : World) (hs : s.size ≤ maxLen) :
    Calls Try.prog 60 #[.string s] w fun e w' => e = .returned (.bool (Lx.isName s.data.toList)) ∧ w' = w := by
  have hs' := hs
  unfold maxLen at hs
  have HN : Hid (Lx.isName s.data.toList = (decide (1 ≤ s.size) && decide (s.size ≤ 16) && Lx.lt (s.data.toList.headD 0) && s.data.toList.all Lx.mr)) := by
    show _ = _; simp [Lx.isName]
  by_cases h0 : s.size = 0
  · have R : Hid (Lx.isName s.data.toList = false) := by show _ = _; rw [HN.out]; simp [h0]
    clear HN
    go_enter Try.func60, Try.ntmps60
    go_wp2
    go_ret
    exact ⟨ret_bool R.out.symm, rfl⟩
  · by_cases h16 : s.size ≤ 16
    · have hp : 0 < s.size := by omega
      have b0 : ((s.size : Int) == 0) = false := beq_eq_false_iff_ne.2 (by omega)
      have b16 : decide (16 < (s.size : Int)) = false := by simp; omega
      have HH : Hid (s.data.toList.headD 0 = s[0]) := by
        show _ = _
        have := Lx.drop_cons s 0 hp
        rw [List.drop_zero] at this
        rw [this]; rfl
      cases hl : Lx.lt s[0]
      · have R : Hid (Lx.isName s.data.toList = false) := by show _ = _; rw [HN.out, HH.out, hl]; simp
        clear HN HH
        go_enter Try.func60, Try.ntmps60
        go_wp2_with (first | (go_at_call 83; refine (isLetter_any _ _).mono ?_; rintro e w' ⟨rfl, rfl⟩))
        go_ret
        exact ⟨ret_bool R.out.symm, rfl⟩
      · have R : Hid (Lx.isName s.data.toList = decide ((Lx.nameLen s.data.toList : Int) = s.size)) := by
          show _ = _
          have e : s.data.toList.length = s.size := by simp
          have := Lx.nameLen_all s.data.toList
          rw [e] at this
          rw [HN.out, HH.out, hl, Bool.eq_iff_iff, Bool.and_eq_true, ← this]
          simp
          omega
        clear HN HH
        go_enter Try.func60, Try.ntmps60
        go_wp2_with (first | (go_at_call 83; refine (isLetter_any _ _).mono ?_; rintro e w' ⟨rfl, rfl⟩) | (go_at_call 84; refine (nameEnd_any _ _ _ hs' (by omega) (by omega)).mono ?_; rintro e w' ⟨rfl, rfl⟩))
        go_ret
        exact ⟨ret_bool (by rw [R.out, Bool.eq_iff_iff]; simp), rfl⟩
    · have R : Hid (Lx.isName s.data.toList = false) := by show _ = _; rw [HN.out]; simp [h16]
      clear HN
      go_enter Try.func60, Try.ntmps60
      go_wp2
      go_ret
      exact ⟨ret_bool R.out.symm, rfl⟩

set_option maxHeartbeats 800000 in
theorem isTerm_any (s : ByteArray) (w : World) (hs : s.size ≤ maxLen) :
    Calls Try.prog 61 #[.string s] w fun e w' => e = .returned (.bool (Lx.isTerm s.data.toList)) ∧ w' = w := by
  unfold maxLen at hs
  have HN : Hid (Lx.isTerm s.data.toList = (decide (1 ≤ s.size) && decide (s.size ≤ 16) && s.data.toList.all Lx.tm)) := by
    show _ = _; simp [Lx.isTerm]
  by_cases h0 : s.size = 0
  · have R : Hid (Lx.isTerm s.data.toList = false) := by show _ = _; rw [HN.out]; simp [h0]
    clear HN
    go_enter Try.func61, Try.ntmps61
    go_wp2
    go_ret
    exact ⟨ret_bool R.out.symm, rfl⟩
  · by_cases h16 : s.size ≤ 16
    · have b0 : ((s.size : Int) == 0) = false := beq_eq_false_iff_ne.2 (by omega)
      have b16 : decide (16 < (s.size : Int)) = false := by simp; omega
      have R : Hid (Lx.isTerm s.data.toList = s.data.toList.all Lx.tm) := by
        show _ = _; rw [HN.out, Bool.eq_iff_iff]; simp; omega
      clear HN
      go_enter Try.func61, Try.ntmps61
      go_wp2
      go_loop [14] (fun i => ∃ k : Nat, k ≤ s.size ∧ i = .int .i64 k ∧ Hid (s.data.toList.all Lx.tm = (s.data.toList.drop k).all Lx.tm)) (fun i => s.size - (intOf i).toNat)
      case atStart => exact ⟨0, Nat.zero_le _, rfl, by show _ = _; rw [List.drop_zero]⟩
      case round =>
        obtain ⟨k, hk, rfl, hE⟩ := hrel
        by_cases hlt : k < s.size
        · have HQ : Hid (Lx.tm s[k] = _) := Lx.tm_eq s[k]
          have Y : Hid (Lx.tm s[k] = true → s.data.toList.all Lx.tm = (s.data.toList.drop (k + 1)).all Lx.tm) := fun h => by
            rw [hE.out, Lx.drop_cons s k hlt, List.all_cons, h, Bool.true_and]
          have N : Hid (Lx.tm s[k] = false → s.data.toList.all Lx.tm = false) := fun h => by
            rw [hE.out, Lx.drop_cons s k hlt, List.all_cons, h, Bool.false_and]
          clear hE
          cases hq : Lx.tm s[k]
          · have F := N.out hq
            have HF : Hid (s.data.toList.all Lx.tm = false) := F
            rw [HQ.out] at hq
            have D : (s[k].toNat : Int) < 32 ∨ 126 < (s[k].toNat : Int) ∨ (((32 : Int) ≤ s[k].toNat ∧ (s[k].toNat : Int) ≤ 126) ∧ ((s[k].toNat : Int) == 39) = true) := by
              simp at hq ⊢; omega
            clear F Y N HQ hq
            rcases D with d | d | ⟨⟨d1, d2⟩, d⟩
            · go_wp2
              go_ret
              exact ⟨ret_bool (by rw [R.out, HF.out]), rfl⟩
            · have d3 : decide ((s[k].toNat : Int) < 32) = false := by simp; omega
              go_wp2
              go_ret
              exact ⟨ret_bool (by rw [R.out, HF.out]), rfl⟩
            · have d3 : decide ((s[k].toNat : Int) < 32) = false := by simp; omega
              have d4 : decide (126 < (s[k].toNat : Int)) = false := by simp; omega
              go_wp2
              go_ret
              exact ⟨ret_bool (by rw [R.out, HF.out]), rfl⟩
          · have F := Y.out hq
            have HF : Hid (s.data.toList.all Lx.tm = (s.data.toList.drop (k + 1)).all Lx.tm) := F
            rw [HQ.out] at hq
            have d1 : (32 : Int) ≤ s[k].toNat := by simp at hq; omega
            have d2 : (s[k].toNat : Int) ≤ 126 := by simp at hq; omega
            have d3 : decide ((s[k].toNat : Int) < 32) = false := by simp; omega
            have d4 : decide (126 < (s[k].toNat : Int)) = false := by simp; omega
            have d5 : ((s[k].toNat : Int) == 39) = false := by simp at hq ⊢; omega
            clear F Y N HQ hq
            go_wp2
            go_round
            case rel => exact ⟨k + 1, by omega, by go_num, HF⟩
            case measure => simp [intOf]; omega
        · have F : Hid (s.data.toList.all Lx.tm = true) := by
            show _ = _
            rw [hE.out, List.drop_of_length_le (by simp; omega)]; rfl
          clear hE
          go_wp2
          go_ret
          exact ⟨ret_bool (by rw [R.out, F.out]), rfl⟩
    · have R : Hid (Lx.isTerm s.data.toList = false) := by show _ = _; rw [HN.out]; simp [h16]
      clear HN
      go_enter Try.func61, Try.ntmps61
      go_wp2
      go_ret
      exact ⟨ret_bool R.out.symm, rfl⟩
end Go.Proofs.Ytdocbgfpnaiijaa
