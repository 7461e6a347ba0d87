/-
  LexNames: of every text: a name begins with a letter, goes on with letters, digits and the line, up to its limit; what may stand in a quote is what can be seen, but a quote sign; Tokens says the same. No condition.
-/
import Derived.Test.YtpeleedpbdnhmaaLexWakes
import Derived.Test.YtpeleedpbdnhmaaLexNamesMath
import Derived.Deep.DeepCutAuto
namespace Go.Proofs.Ytpeleedpbdnhmaa
open Go.RowKit

set_option maxRecDepth 100000 in
set_option maxHeartbeats 4000000 in
theorem lexNames_walk (s : ByteArray) (w : World) (hs : s.size ≤ maxLen) :
    Calls Try.prog 6 #[.string s] w fun e w' => e = .returned (.bool true) ∧ Below w.heap.size w w' := by
  have hs' := hs
  unfold maxLen at hs
  by_cases h2 : 300 < s.size
  · go_enter Try.func6, Try.ntmps6
    go_wp2_with (go_at_call 9; refine (wakes_any _).mono ?_; rintro e w1 ⟨rfl, hb⟩)
    go_ret
    exact ⟨rfl, hb⟩
  · have HL : Hid (s.data.toList.length = s.size) := by show _ = _; simp
    have d2 : decide (300 < (s.size : Int)) = false := by simp; omega
    go_enter Try.func6, Try.ntmps6
    go_upto_region 3 with fail
    go_cut [3, 4] (fun a b wc => a = .bool (nmB s.data.toList 0) ∧ b = .bool (tmB s.data.toList 0) ∧ w = wc)
    case first =>
      have e1 : nmB s.data.toList 0 = (decide (1 ≤ s.size) && decide (s.size ≤ 16)) := by unfold nmB; rw [HL.out]; simp
      have e2 : tmB s.data.toList 0 = (decide (1 ≤ s.size) && decide (s.size ≤ 16)) := by unfold tmB; rw [HL.out]; simp
      have E1 : Hid (nmB s.data.toList 0 = _) := e1
      have E2 : Hid (tmB s.data.toList 0 = _) := e2
      clear e1 e2
      by_cases h1 : 1 ≤ s.size
      · go_wp2_with fail
        go_meet
        case rel => exact ⟨congrArg Value.bool (by rw [E1.out, Bool.eq_iff_iff]; simp only [Bool.and_eq_true, decide_eq_true_eq]; omega), congrArg Value.bool (by rw [E2.out, Bool.eq_iff_iff]; simp only [Bool.and_eq_true, decide_eq_true_eq]; omega), rfl⟩
      · have d1 : decide (1 ≤ (s.size : Int)) = false := by simp; omega
        go_wp2_with fail
        go_meet
        case rel => exact ⟨congrArg Value.bool (by rw [E1.out]; simp; omega), congrArg Value.bool (by rw [E2.out]; simp; omega), rfl⟩
    case rest =>
      obtain ⟨rfl, rfl, rfl⟩ := hcut
      go_wp2_with fail
      go_loop [3, 4, 5] (fun a b i => ∃ k : Nat, k ≤ s.size ∧ i = .int .i64 k ∧ a = .bool (nmB s.data.toList k) ∧ b = .bool (tmB s.data.toList k)) (fun _ _ i => s.size - (intOf i).toNat)
      case atStart => exact ⟨0, Nat.zero_le _, rfl, rfl, rfl⟩
      case round =>
        obtain ⟨k, hk, rfl, rfl, rfl⟩ := hrel
        by_cases hlt : k < s.size
        · have HN : Hid (nmB s.data.toList (k + 1) = (nmB s.data.toList k && (Lx.lt s[k] || (decide (0 < k) && (Lx.dg s[k] || s[k] == 95))))) := nmB_step s k hlt
          have HT : Hid (tmB s.data.toList (k + 1) = (tmB s.data.toList k && Lx.tm s[k])) := tmB_step s k hlt
          have H1 : Hid (Lx.lt s[k] = _) := Lx.lt_eq s[k]
          have H2 : Hid (Lx.dg s[k] = _) := Lx.dg_eq s[k]
          have H3 : Hid ((s[k] == 95) = decide ((s[k].toNat : Int) = 95)) := Lx.eq_nat s[k] 95
          have H4 : Hid (Lx.tm s[k] = _) := Lx.tm_eq s[k]
          generalize nmB s.data.toList k = a0 at *
          generalize tmB s.data.toList k = b0 at *
          go_upto_region 8 with fail
          go_cut [7] (fun a wc => a = .bool (Lx.lt s[k]) ∧ w = wc)
          case first =>
            go_wp2_with fail
            all_goals go_meet
            all_goals (case rel => exact ⟨congrArg Value.bool (by rw [H1.out, Bool.eq_iff_iff]; simp <;> omega), rfl⟩)
          case rest =>
            obtain ⟨rfl, rfl⟩ := hcut
            clear H1
            generalize Lx.lt s[k] = a1 at *
            go_upto_region 9 with fail
            go_cut [3] (fun a wc => a = .bool (nmB s.data.toList (k + 1)) ∧ w = wc)
            case first =>
              cases a0
              · go_wp2_with fail
                go_meet
                case rel => exact ⟨congrArg Value.bool (by rw [HN.out, Bool.false_and]), rfl⟩
              · cases a1
                · go_wp2_with fail
                  all_goals go_meet
                  all_goals (case rel => exact ⟨congrArg Value.bool (by rw [HN.out, H2.out, H3.out, Bool.eq_iff_iff]; simp <;> omega), rfl⟩)
                · go_wp2_with fail
                  go_meet
                  case rel => exact ⟨congrArg Value.bool (by rw [HN.out]; rfl), rfl⟩
            case rest =>
              obtain ⟨rfl, rfl⟩ := hcut
              clear HN H2 H3
              cases b0
              · go_wp2_with fail
                go_round
                case rel => exact ⟨k + 1, by omega, by go_num, rfl, congrArg Value.bool (by rw [HT.out, Bool.false_and])⟩
                case measure => simp [intOf]; omega
              · go_wp2_with fail
                all_goals
                  go_round
                  case rel => exact ⟨k + 1, by omega, by go_num, rfl, congrArg Value.bool (by rw [HT.out, H4.out, Bool.eq_iff_iff]; simp <;> omega)⟩
                  case measure => simp [intOf]; omega
        · obtain rfl : k = s.size := by omega
          have HA : Hid (nmB s.data.toList s.size = Lx.isName s.data.toList) := by show _ = _; rw [← HL.out]; exact nmB_end _
          have HB : Hid (tmB s.data.toList s.size = Lx.isTerm s.data.toList) := by show _ = _; rw [← HL.out]; exact tmB_end _
          rw [HA.out, HB.out]
          clear HA HB
          obtain ⟨E, At, ts, hG⟩ : ∃ E At ts, tokensG s.data.toList = (E, At, ts) := ⟨_, _, _, rfl⟩
          have HG : Hid (tokensG s.data.toList = (E, At, ts)) := hG
          have N1 : Hid (Lx.isName s.data.toList = true → E = 0 ∧ At = 0 ∧ ts = [⟨1, s.data.toList, 0⟩]) := fun h => by
            rw [name_tokens h] at hG; cases hG; exact ⟨rfl, rfl, rfl⟩
          have N2 : Hid (ts = [⟨1, s.data.toList, 0⟩] → Lx.isName s.data.toList = true) := fun h => by
            rw [h] at hG; exact tokens_name hG
          obtain ⟨E', At', ts', hG'⟩ : ∃ E At ts, tokensG (39 :: (s.data.toList ++ [39])) = (E, At, ts) := ⟨_, _, _, rfl⟩
          have HG' : Hid (tokensG (39 :: (s.data.toList ++ [39])) = (E', At', ts')) := hG'
          have T1 : Hid (Lx.isTerm s.data.toList = true → E' = 0 ∧ At' = 0 ∧ ts' = [⟨2, s.data.toList, 0⟩]) := fun h => by
            rw [term_tokens h] at hG'; cases hG'; exact ⟨rfl, rfl, rfl⟩
          have T2 : Hid (ts' = [⟨2, s.data.toList, 0⟩] → Lx.isTerm s.data.toList = true) := fun h => by
            rw [h] at hG'; exact tokens_term hG'
          clear hG hG' hk hlt
          go_wp2_with fail
          refine (tokens_is s E At ts _ hs' HG).mono ?_
          rintro e w1 ⟨ao, c, rfl, hb, hown⟩
          obtain ⟨ao', c', hv, hr⟩ := toks_read hown
          simp only [Value.slice.injEq, true_and] at hv
          obtain ⟨rfl, rfl⟩ := hv
          have HR : Hid _ := hr
          clear hr hown
          go_upto_region 12 with fail
          go_cut [10] (fun a wc => a = .bool (Lx.isName s.data.toList) ∧ w1.alloc (.cells #[.int .i64 E, .int .i64 At] 26) = wc)
          case first =>
            by_cases h0 : E = 0
            · by_cases h1 : ts.length = 1
              · obtain ⟨⟨kd, tx, ps⟩, rfl⟩ := List.length_eq_one_iff.1 h1
                obtain ⟨g, rfl, _, hg1, a0, a1, a2⟩ := HR.out 0 (by simp)
                simp at a0 a1 a2
                have YES : Hid ((kd : Int) = 1 → tx = s.toList → ps = 0 → true = Lx.isName s.data.toList) := fun e1 e2 e3 =>
                  (N2.out (by rw [show kd = 1 from by omega, e2, e3, Lib.toList_data])).symm
                have NO : Hid (Lx.isName s.data.toList = true → (kd : Int) = 1 ∧ tx = s.toList ∧ ps = 0) := fun h => by
                  have := (N1.out h).2.2
                  simp only [List.cons.injEq, Lx.Tok.mk.injEq, and_true] at this
                  exact ⟨by omega, by rw [this.2.1, Lib.toList_data], this.2.2⟩
                subst h0
                clear N1 N2 T1 T2 HG HG' HR
                go_wp2_with fail
                all_goals
                  go_meet
                  case rel =>
                    refine ⟨congrArg Value.bool ?_, rfl⟩
                    first
                      | exact YES.out ‹_› ‹_› ‹_›
                      | (cases h : Lx.isName s.data.toList
                         · rfl
                         · exact absurd (NO.out h) (by rintro ⟨x, y, z⟩; contradiction))
              · have h1' : ((ts.length : Int) == 1) = false := beq_eq_false_iff_ne.2 (by omega)
                have F : Hid (false = Lx.isName s.data.toList) := by
                  show _ = _
                  cases h : Lx.isName s.data.toList
                  · rfl
                  · exact absurd (by rw [(N1.out h).2.2]; rfl) h1
                subst h0
                clear N1 N2 T1 T2 HG HG' HR
                go_wp2_with fail
                go_meet
                case rel => exact ⟨congrArg Value.bool F.out, rfl⟩
            · have h0' : (E == 0) = false := beq_eq_false_iff_ne.2 h0
              have F : Hid (false = Lx.isName s.data.toList) := by
                show _ = _
                cases h : Lx.isName s.data.toList
                · rfl
                · exact absurd (N1.out h).1 h0
              clear N1 N2 T1 T2 HG HG' HR
              go_wp2_with fail
              go_meet
              case rel => exact ⟨congrArg Value.bool F.out, rfl⟩
          case rest =>
            obtain ⟨rfl, rfl⟩ := hcut
            clear N1 N2 HG HR
            have HQ : Hid (tokensG (⟨#[39]⟩ ++ s ++ ⟨#[39]⟩ : ByteArray).data.toList = (E', At', ts')) := by
              show _ = _
              rw [← HG'.out]; simp
            have hq : (⟨#[39]⟩ ++ s ++ ⟨#[39]⟩ : ByteArray).size ≤ maxLen := by
              unfold maxLen
              have : (⟨#[39]⟩ ++ s ++ ⟨#[39]⟩ : ByteArray).size = s.size + 2 := by simp only [ByteArray.size_append]; show 1 + s.size + 1 = _; omega
              omega
            have hB1 : Below w.heap.size w (w1.alloc (.cells #[.int .i64 E, .int .i64 At] 26)) := hb.alloc hb.size _
            clear HG'
            go_wp2_with fail
            refine (tokens_is _ E' At' ts' _ hq HQ).mono ?_
            rintro e w2 ⟨ao2, c2, rfl, hb2, hown2⟩
            obtain ⟨ao', c', hv, hr⟩ := toks_read hown2
            simp only [Value.slice.injEq, true_and] at hv
            obtain ⟨rfl, rfl⟩ := hv
            have HR' : Hid _ := hr
            have hB2 : Below w.heap.size w w2 := hB1.trans (hb2.mono hB1.size)
            clear hr hown2 HQ hq hb2 hb hB1
            go_upto_region 14 with fail
            go_cut [13] (fun a wc => a = .bool (Lx.isTerm s.data.toList) ∧ w2.alloc (.cells #[.int .i64 E', .int .i64 At'] 26) = wc)
            case first =>
              by_cases h0 : E' = 0
              · by_cases h1 : ts'.length = 1
                · obtain ⟨⟨kd, tx, ps⟩, rfl⟩ := List.length_eq_one_iff.1 h1
                  obtain ⟨g, rfl, _, hg1, a0, a1, a2⟩ := HR'.out 0 (by simp)
                  simp at a0 a1 a2
                  have YES : Hid ((kd : Int) = 2 → tx = s.toList → ps = 0 → true = Lx.isTerm s.data.toList) := fun e1 e2 e3 =>
                    (T2.out (by rw [show kd = 2 from by omega, e2, e3, Lib.toList_data])).symm
                  have NO : Hid (Lx.isTerm s.data.toList = true → (kd : Int) = 2 ∧ tx = s.toList ∧ ps = 0) := fun h => by
                    have := (T1.out h).2.2
                    simp only [List.cons.injEq, Lx.Tok.mk.injEq, and_true] at this
                    exact ⟨by omega, by rw [this.2.1, Lib.toList_data], this.2.2⟩
                  subst h0
                  clear T1 T2 HR'
                  go_wp2_with fail
                  all_goals
                    go_meet
                    case rel =>
                      refine ⟨congrArg Value.bool ?_, rfl⟩
                      first
                        | exact YES.out ‹_› ‹_› ‹_›
                        | (cases h : Lx.isTerm s.data.toList
                           · rfl
                           · exact absurd (NO.out h) (by rintro ⟨x, y, z⟩; contradiction))
                · have h1' : ((ts'.length : Int) == 1) = false := beq_eq_false_iff_ne.2 (by omega)
                  have F : Hid (false = Lx.isTerm s.data.toList) := by
                    show _ = _
                    cases h : Lx.isTerm s.data.toList
                    · rfl
                    · exact absurd (by rw [(T1.out h).2.2]; rfl) h1
                  subst h0
                  clear T1 T2 HR'
                  go_wp2_with fail
                  go_meet
                  case rel => exact ⟨congrArg Value.bool F.out, rfl⟩
              · have h0' : (E' == 0) = false := beq_eq_false_iff_ne.2 h0
                have F : Hid (false = Lx.isTerm s.data.toList) := by
                  show _ = _
                  cases h : Lx.isTerm s.data.toList
                  · rfl
                  · exact absurd (T1.out h).1 h0
                clear T1 T2 HR'
                go_wp2_with fail
                go_meet
                case rel => exact ⟨congrArg Value.bool F.out, rfl⟩
            case rest =>
              obtain ⟨rfl, rfl⟩ := hcut
              clear T1 T2 HR'
              go_wp2_with (first | (go_at_call 13; refine (isName_any _ _ hs').mono ?_; rintro e w4 ⟨rfl, rfl⟩) | (go_at_call 15; refine (isTerm_any _ _ hs').mono ?_; rintro e w4 ⟨rfl, rfl⟩) | (go_at_call 9; refine (wakes_any _).mono ?_; rintro e w5 ⟨rfl, hb5⟩))
              go_ret
              exact ⟨rfl, (hB2.alloc hB2.size _).trans (hb5.mono (by have := hB2.size; simp; omega))⟩
end Go.Proofs.Ytpeleedpbdnhmaa
