/-
  The document's own answers for layer 1, the small ones: letter, more, IsName, IsTerm; and whether two lists of tokens are alike.
-/
import Derived.Test.YtdocbgfpnaiijaaLexTokens
import Derived.Deep.QuietTactic
import Derived.BigQuiet
import Derived.WalkSmall
namespace Go.Proofs.Ytdocbgfpnaiijaa
open Go.RowKit

set_option maxHeartbeats 400000 in
theorem refLetter_any (c : UInt8) (w : World) :
    Calls Try.prog 48 #[.int .u8 c.toNat] w fun e w' => e = .returned (.bool (Lx.lt c)) ∧ w' = w := by
  have HC : Hid (Lx.lt c = _) := Lx.lt_eq c
  go_enter Try.func48, Try.ntmps48
  go_wp2
  all_goals go_ret
  all_goals refine ⟨ret_bool ?_, rfl⟩
  all_goals (rw [HC.out, Bool.eq_iff_iff]; simp <;> omega)

set_option maxHeartbeats 400000 in
theorem refMore_any (c : UInt8) (w : World) :
    Calls Try.prog 47 #[.int .u8 c.toNat] w fun e w' => e = .returned (.bool (Lx.mr c)) ∧ w' = w := by
  have H2 : Hid (Lx.dg c = _) := Lx.dg_eq c
  have H3 : Hid ((c == 95) = decide ((c.toNat : Int) = 95)) := Lx.eq_nat c 95
  have HM : Hid (Lx.mr c = (Lx.lt c || Lx.dg c || c == 95)) := rfl
  cases h1 : Lx.lt c
  · go_enter Try.func47, Try.ntmps47
    go_wp2_with (go_at_call 48; refine (refLetter_any _ _).mono ?_; rintro e w' ⟨rfl, rfl⟩)
    all_goals go_ret
    all_goals refine ⟨ret_bool ?_, rfl⟩
    all_goals (rw [HM.out, h1, H2.out, H3.out, Bool.eq_iff_iff]; simp <;> omega)
  · go_enter Try.func47, Try.ntmps47
    go_wp2_with (go_at_call 48; refine (refLetter_any _ _).mono ?_; rintro e w' ⟨rfl, rfl⟩)
    go_ret
    exact ⟨ret_bool (by rw [HM.out, h1]; rfl), rfl⟩

theorem all_drop (p : UInt8 → Bool) (s : ByteArray) (k : Nat) (h : k < s.size) : (s.data.toList.drop k).all p = (p s[k] && (s.data.toList.drop (k + 1)).all p) := by
  rw [Lx.drop_cons s k h, List.all_cons]

set_option maxHeartbeats 800000 in
theorem refIsName_any (s : ByteArray) (w : World) (hs : s.size ≤ maxLen) :
    Calls Try.prog 30 #[.string s] w fun e w' => e = .returned (.bool (Lx.isName s.data.toList)) ∧ w' = w := by
  unfold maxLen at hs
  have HN : Hid (Lx.isName s.data.toList = (decide (1 ≤ s.size) && decide (s.size ≤ 16) && Lx.lt (s.data.toList.headD 0) && s.data.toList.all Lx.mr)) := by
    show _ = _; simp [Lx.isName]
  go_enter Try.func30, Try.ntmps30
  go_wp2_with fail
  go_loop [3] (fun i => ∃ k : Nat, k ≤ s.size ∧ i = .int .i64 k ∧ Hid (s.data.toList.all Lx.mr = (s.data.toList.drop k).all Lx.mr)) (fun i => s.size - (intOf i).toNat)
  case atStart => exact ⟨0, Nat.zero_le _, rfl, by show _ = _; rw [List.drop_zero]⟩
  case round =>
    obtain ⟨k, hk, rfl, hE⟩ := hrel
    by_cases hlt : k < s.size
    · have HA : Hid (s.data.toList.all Lx.mr = (Lx.mr s[k] && (s.data.toList.drop (k + 1)).all Lx.mr)) := by show _ = _; rw [hE.out]; exact all_drop _ s k hlt
      clear hE
      cases hm : Lx.mr s[k]
      · have R : Hid (Lx.isName s.data.toList = false) := by show _ = _; rw [HN.out, HA.out, hm]; simp
        clear HA HN
        go_wp2_with (go_at_call 47; refine (refMore_any _ _).mono ?_; rintro e w' ⟨rfl, rfl⟩)
        go_ret
        exact ⟨ret_bool R.out.symm, rfl⟩
      · have R : Hid (s.data.toList.all Lx.mr = (s.data.toList.drop (k + 1)).all Lx.mr) := by show _ = _; rw [HA.out, hm, Bool.true_and]
        clear HA HN
        go_wp2_with (go_at_call 47; refine (refMore_any _ _).mono ?_; rintro e w' ⟨rfl, rfl⟩)
        go_round
        case rel => exact ⟨k + 1, by omega, by go_num, R⟩
        case measure => simp [intOf]; omega
    · have HA : Hid (s.data.toList.all Lx.mr = true) := by show _ = _; rw [hE.out, List.drop_of_length_le (by simp; omega)]; rfl
      clear hE
      by_cases h1 : 1 ≤ s.size
      · by_cases h16 : s.size ≤ 16
        · have HH : Hid (s.data.toList.headD 0 = s[0]) := by
            show _ = _
            have := Lx.drop_cons s 0 h1
            rw [List.drop_zero] at this
            rw [this]; rfl
          have R : Hid (Lx.isName s.data.toList = Lx.lt s[0]) := by show _ = _; rw [HN.out, HA.out, HH.out]; simp [h1, h16]
          clear HN HA HH
          go_wp2_with (go_at_call 48; refine (refLetter_any _ _).mono ?_; rintro e w' ⟨rfl, rfl⟩)
          go_ret
          exact ⟨ret_bool R.out.symm, rfl⟩
        · have R : Hid (Lx.isName s.data.toList = false) := by show _ = _; rw [HN.out]; simp [h16]
          have d : decide ((s.size : Int) ≤ 16) = false := by simp; omega
          clear HN HA
          go_wp2_with fail
          go_ret
          exact ⟨ret_bool R.out.symm, rfl⟩
      · have R : Hid (Lx.isName s.data.toList = false) := by show _ = _; rw [HN.out]; simp [h1]
        have d : decide ((1 : Int) ≤ s.size) = false := by simp; omega
        clear HN HA
        go_wp2_with fail
        go_ret
        exact ⟨ret_bool R.out.symm, rfl⟩

set_option maxHeartbeats 800000 in
theorem refIsTerm_any (s : ByteArray) (w : World) (hs : s.size ≤ maxLen) :
    Calls Try.prog 32 #[.string s] w fun e w' => e = .returned (.bool (Lx.isTerm s.data.toList)) ∧ w' = w := by
  unfold maxLen at hs
  have HN : Hid (Lx.isTerm s.data.toList = (decide (1 ≤ s.size) && decide (s.size ≤ 16) && s.data.toList.all Lx.tm)) := by
    show _ = _; simp [Lx.isTerm]
  go_enter Try.func32, Try.ntmps32
  go_wp2_with fail
  go_loop [3] (fun i => ∃ k : Nat, k ≤ s.size ∧ i = .int .i64 k ∧ Hid (s.data.toList.all Lx.tm = (s.data.toList.drop k).all Lx.tm)) (fun i => s.size - (intOf i).toNat)
  case atStart => exact ⟨0, Nat.zero_le _, rfl, by show _ = _; rw [List.drop_zero]⟩
  case round =>
    obtain ⟨k, hk, rfl, hE⟩ := hrel
    by_cases hlt : k < s.size
    · have HA : Hid (s.data.toList.all Lx.tm = (Lx.tm s[k] && (s.data.toList.drop (k + 1)).all Lx.tm)) := by show _ = _; rw [hE.out]; exact all_drop _ s k hlt
      have HQ : Hid (Lx.tm s[k] = _) := Lx.tm_eq s[k]
      clear hE
      cases hm : Lx.tm s[k]
      · have R : Hid (Lx.isTerm s.data.toList = false) := by show _ = _; rw [HN.out, HA.out, hm]; simp
        rw [HQ.out] at hm
        have D : (s[k].toNat : Int) < 32 ∨ 126 < (s[k].toNat : Int) ∨ (((32 : Int) ≤ s[k].toNat ∧ (s[k].toNat : Int) ≤ 126) ∧ ((s[k].toNat : Int) == 39) = true) := by
          simp at hm ⊢; omega
        clear HA HN HQ hm
        rcases D with d | d | ⟨⟨d1, d2⟩, d⟩
        · go_wp2_with fail
          go_ret
          exact ⟨ret_bool R.out.symm, rfl⟩
        · have d3 : decide ((s[k].toNat : Int) < 32) = false := by simp; omega
          go_wp2_with fail
          go_ret
          exact ⟨ret_bool R.out.symm, rfl⟩
        · have d3 : decide ((s[k].toNat : Int) < 32) = false := by simp; omega
          have d4 : decide (126 < (s[k].toNat : Int)) = false := by simp; omega
          go_wp2_with fail
          go_ret
          exact ⟨ret_bool R.out.symm, rfl⟩
      · have R : Hid (s.data.toList.all Lx.tm = (s.data.toList.drop (k + 1)).all Lx.tm) := by show _ = _; rw [HA.out, hm, Bool.true_and]
        rw [HQ.out] at hm
        have d3 : decide ((s[k].toNat : Int) < 32) = false := by simp at hm ⊢; omega
        have d4 : decide (126 < (s[k].toNat : Int)) = false := by simp at hm ⊢; omega
        have d5 : ((s[k].toNat : Int) == 39) = false := by simp at hm ⊢; omega
        have d1 : (32 : Int) ≤ s[k].toNat := by simp at hm; omega
        have d2 : (s[k].toNat : Int) ≤ 126 := by simp at hm; omega
        clear HA HN HQ hm
        go_wp2_with fail
        go_round
        case rel => exact ⟨k + 1, by omega, by go_num, R⟩
        case measure => simp [intOf]; omega
    · have HA : Hid (s.data.toList.all Lx.tm = true) := by show _ = _; rw [hE.out, List.drop_of_length_le (by simp; omega)]; rfl
      clear hE
      by_cases h1 : 1 ≤ s.size
      · have R : Hid (Lx.isTerm s.data.toList = decide ((s.size : Int) ≤ 16)) := by
          show _ = _; rw [HN.out, HA.out, Bool.eq_iff_iff]; simp; omega
        clear HN HA
        go_wp2_with fail
        go_ret
        exact ⟨ret_bool R.out.symm, rfl⟩
      · have R : Hid (Lx.isTerm s.data.toList = false) := by show _ = _; rw [HN.out]; simp [h1]
        have d : decide ((1 : Int) ≤ s.size) = false := by simp; omega
        clear HN HA
        go_wp2_with fail
        go_ret
        exact ⟨ret_bool R.out.symm, rfl⟩
end Go.Proofs.Ytdocbgfpnaiijaa
