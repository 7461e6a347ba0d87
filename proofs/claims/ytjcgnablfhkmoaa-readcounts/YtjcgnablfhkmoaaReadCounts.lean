/-
  The law ReadCounts, walked: it returns true, of every row of tokens.
-/
import Derived.Test.YtjcgnablfhkmoaaReadOpen
import Derived.Test.YtjcgnablfhkmoaaReadMath2
namespace Go.Proofs.Ytjcgnablfhkmoaa
open Go.RowKit

set_option maxHeartbeats 1600000 in
theorem readCounts_walk (ao : Option Addr) (c : Nat) (ts : List Rd.Tk) (w : World) (hT : TksAt w.heap.size w ao ts) (hc : ts.length ≤ c ∧ c ≤ maxLen) (hm : ∀ t ∈ ts, t.text.size ≤ maxLen) :
    Calls Try.prog 6 #[.slice ao ts.length c] w fun e w' => e = .returned (.bool true) ∧ Below w.heap.size w w' := by
  have hlm : ts.length ≤ maxLen := Nat.le_trans hc.1 hc.2
  have HT : Hid (TksAt w.heap.size w ao ts) := hT
  have HC : Hid (ts.length ≤ c ∧ c ≤ maxLen) := hc
  have HM : Hid (∀ t ∈ ts, t.text.size ≤ maxLen) := hm
  clear hT hc hm
  cases hf : fair ts
  · go_enter Try.func6, Try.ntmps6
    go_wp2_with (first | (go_at_call 9; refine (fair_is _ _ _ _ _ hlm HM.out HT.out hf).mono ?_; rintro e w1 ⟨rfl, rfl⟩) | (go_at_call 10; refine (rwakes_any _).mono ?_; rintro e w1 ⟨rfl, hb⟩))
    go_ret
    exact ⟨rfl, hb⟩
  · have h7 := fair_len hf
    have HX : Hid (∀ t ∈ ts, t.text.size ≤ 281474976710656) := fair_text hf
    obtain ⟨E, At, xs, hG⟩ : ∃ E At xs, Rd.altsG ts 0 = (E, At, xs) := ⟨_, _, _, rfl⟩
    have HG : Hid (Rd.altsG ts 0 = (E, At, xs)) := hG
    have hsm := Rd.altsG_small hG
    rcases Rd.altsG_cases ts 0 with ⟨l, hjk, h2, h3, h4⟩ | ⟨e, hjk, h2, h3⟩ <;> clear hjk
    · rw [hG] at h2
      cases h2
      obtain ⟨q1, q2, q3, q4⟩ := Rd.alts_counts h3 h4
      have hs8 : Hid _ := hsm.2
      have hs6 := hsm.1
      have Q4 : Hid _ := q4
      have q5 : Rd.cntW ts ≤ ts.length := List.countP_le_length
      have q6 : Rd.cnt 4 ts ≤ ts.length := List.countP_le_length
      have q7 : Rd.cnt 5 ts ≤ ts.length := List.countP_le_length
      have Q1 : Hid _ := q1
      have Q2 : Hid _ := q2
      have Q3 : Hid _ := q3
      have Q5 : Hid _ := q5
      clear h3 h4 hG hsm q4 q1 q2 q3 q5 q6 q7
      go_enter Try.func6, Try.ntmps6
      go_wp2_with (first | (go_at_call 9; refine (fair_is _ _ _ _ _ hlm HM.out HT.out hf).mono ?_; rintro e w1 ⟨rfl, rfl⟩))
      refine (alts_is ao c ts 0 _ _ _ _ (by omega) HX.out HC.out HT.out HG).mono ?_
      rintro e w1 ⟨xo, xc, rfl, hb1, ha1⟩
      go_wp2_with fail
      have hb1a : Hid (Below w.heap.size w (w1.alloc (Obj.cells #[Value.int IntKind.i64 0, Value.int IntKind.i64 0] 28))) := hb1.out.alloc hb1.out.size _
      have HA : Hid (∀ i (hi : i < xs.length), ∃ g ro rc, xo = some ⟨g, 0, none⟩ ∧ (w1.alloc (Obj.cells #[Value.int IntKind.i64 0, Value.int IntKind.i64 0] 28)).cell? ⟨g, i * 4, none⟩ = some (.int .i64 xs[i].1.kind) ∧
          (w1.alloc (Obj.cells #[Value.int IntKind.i64 0, Value.int IntKind.i64 0] 28)).cell? ⟨g, i * 4 + 3, none⟩ = some (.slice ro xs[i].2.length rc)) := by
        intro i hi
        obtain ⟨g, ro, rc, h1, _, h2, _, _, h3, _⟩ := (ha1.out.alloc (Obj.cells #[Value.int IntKind.i64 0, Value.int IntKind.i64 0] 28)).right i hi
        exact ⟨g, ro, rc, h1, h2, h3⟩
      have HTW : Hid (TksAt w.heap.size (w1.alloc (Obj.cells #[Value.int IntKind.i64 0, Value.int IntKind.i64 0] 28)) ao ts) := HT.out.later hb1a.out
      clear ha1 hb1
      generalize (w1.alloc (Obj.cells #[Value.int IntKind.i64 0, Value.int IntKind.i64 0] 28)) = W at *
      go_loop [5, 6, 7, 8] (fun b e wd i => ∃ k : Nat, k ≤ ts.length ∧ i = .int .i64 k ∧ b = .int .i64 (Rd.cnt 4 (ts.take k) : Nat) ∧ e = .int .i64 (Rd.cnt 5 (ts.take k) : Nat) ∧ wd = .int .i64 (Rd.cntW (ts.take k) : Nat)) (fun _ _ _ i => ts.length - (intOf i).toNat)
      case atStart => exact ⟨0, Nat.zero_le _, rfl, rfl, rfl, rfl⟩
      case round =>
        obtain ⟨k, hk, rfl, rfl, rfl, rfl⟩ := hrel
        by_cases hlt : k < ts.length
        · obtain ⟨b, o, rfl, hb1, hb2, a0, a1, a2⟩ := HTW.out k hlt
          have T4 : Hid _ := Rd.cnt_take 4 ts k hlt
          have T5 : Hid _ := Rd.cnt_take 5 ts k hlt
          have TW : Hid _ := Rd.cntW_take ts k hlt
          have l4 : Rd.cnt 4 (ts.take k) ≤ k := Nat.le_trans List.countP_le_length (by rw [List.length_take]; omega)
          have l5 : Rd.cnt 5 (ts.take k) ≤ k := Nat.le_trans List.countP_le_length (by rw [List.length_take]; omega)
          have lw : Rd.cntW (ts.take k) ≤ k := Nat.le_trans List.countP_le_length (by rw [List.length_take]; omega)
          generalize Rd.cnt 4 (ts.take k) = n4 at *
          generalize Rd.cnt 5 (ts.take k) = n5 at *
          generalize Rd.cntW (ts.take k) = nw at *
          generalize ts[k] = y at *
          obtain ⟨yk, yx, yp⟩ := y
          simp only at a0 a1 a2 T4 T5 TW
          clear HX HM HT HC HA HTW hs8 Q4 Q1 Q2 Q3 Q5 HG
          have key : yk = 4 ∨ yk = 5 ∨ yk = 1 ∨ yk = 2 ∨ (yk ≠ 4 ∧ yk ≠ 5 ∧ yk ≠ 1 ∧ yk ≠ 2) := by omega
          rcases key with rfl | rfl | rfl | rfl | ⟨k4, k5, k1, k2⟩
          · go_wp2_with fail
            go_round
            case rel => exact ⟨k + 1, by omega, by go_num, by rw [T4.out]; go_num, by rw [T5.out]; rfl, by rw [TW.out]; rfl⟩
            case measure => simp [intOf]; omega
          · go_wp2_with fail
            go_round
            case rel => exact ⟨k + 1, by omega, by go_num, by rw [T4.out]; rfl, by rw [T5.out]; go_num, by rw [TW.out]; rfl⟩
            case measure => simp [intOf]; omega
          · go_wp2_with fail
            go_round
            case rel => exact ⟨k + 1, by omega, by go_num, by rw [T4.out]; rfl, by rw [T5.out]; rfl, by rw [TW.out]; go_num⟩
            case measure => simp [intOf]; omega
          · go_wp2_with fail
            go_round
            case rel => exact ⟨k + 1, by omega, by go_num, by rw [T4.out]; rfl, by rw [T5.out]; rfl, by rw [TW.out]; go_num⟩
            case measure => simp [intOf]; omega
          · have e4 : (yk == 4) = false := by simp [k4]
            have e5 : (yk == 5) = false := by simp [k5]
            have e1 : (yk == 1) = false := by simp [k1]
            have e2 : (yk == 2) = false := by simp [k2]
            rw [if_neg k4] at T4
            rw [if_neg k5] at T5
            rw [if_neg (by omega)] at TW
            clear k4 k5 k1 k2
            go_wp2_with fail
            go_round
            case rel => exact ⟨k + 1, by omega, by go_num, by rw [T4.out]; rfl, by rw [T5.out]; rfl, by rw [TW.out]; rfl⟩
            case measure => simp [intOf]; omega
        · have HK : Hid (ts.take k = ts) := by show _ = _; rw [List.take_of_length_le (by omega)]
          rw [HK.out]
          clear HK
          generalize Rd.cnt 4 ts = n4 at *
          generalize Rd.cnt 5 ts = n5 at *
          generalize Rd.cntW ts = nw at *
          go_wp2_with fail
          have n51 := Q3.out
          have nwl := Q5.out
          have nle : n5 ≤ nw := by have := Q2.out; omega
          go_loop [9, 10] (fun r i => ∃ k : Nat, k ≤ xs.length ∧ i = .int .i64 k ∧ r = .int .i64 (Rd.sumR (xs.take k) : Nat) ∧ Rd.sumR (xs.take k) ≤ k * 8) (fun _ i => xs.length - (intOf i).toNat)
          case atStart => exact ⟨0, Nat.zero_le _, rfl, rfl, by simp [Rd.sumR]⟩
          case round =>
            obtain ⟨k', hk', rfl, rfl, hsum⟩ := hrel
            by_cases hlt' : k' < xs.length
            · obtain ⟨g, ro, rc, rfl, a0, a3⟩ := HA.out k' hlt'
              have TS : Hid _ := Rd.sumR_take xs k' hlt'
              have h8 := hs8.out xs[k'] (List.getElem_mem hlt')
              have h1 := Q4.out xs[k'] (List.getElem_mem hlt')
              generalize Rd.sumR (xs.take k') = n at *
              generalize xs[k'] = y at *
              obtain ⟨⟨yk, yx, yp⟩, r⟩ := y
              simp only at a0 a3 h8 h1 TS
              subst h1
              go_wp2_with fail
              go_round
              case rel => exact ⟨k' + 1, by omega, by go_num, by rw [TS.out]; go_num, by rw [TS.out]; omega⟩
              case measure => simp [intOf]; omega
            · have HK : Hid (xs.take k' = xs) := by show _ = _; rw [List.take_of_length_le (by omega)]
              rw [HK.out] at hsum ⊢
              have e1 : ((xs.length : Int) == (n4 : Int) + (n5 : Int)) = true := by have := Q1.out; simp; omega
              have e2 : ((Rd.sumR xs : Int) == (nw : Int) - (n5 : Int)) = true := by have := Q2.out; simp; omega
              have e3 : (1 : Int) ≤ (n5 : Int) := by omega
              have n4l : n4 ≤ 60 := by have := Q1.out; omega
              have n5l : n5 ≤ 700 := by omega
              clear HK
              generalize Rd.sumR xs = n at *
              go_wp2_with (first | (go_at_call 10; refine (rwakes_any _).mono ?_; rintro e w2 ⟨rfl, hb2⟩))
              go_ret
              exact ⟨rfl, hb1a.out.trans (hb2.mono hb1a.out.size)⟩
    · rw [hG] at h2
      cases h2
      have hne : (e.1 != 0) = true := by simp; omega
      generalize e.1 = n at *
      generalize e.2 = a at *
      clear h3 hG hsm
      go_enter Try.func6, Try.ntmps6
      go_wp2_with (first | (go_at_call 9; refine (fair_is _ _ _ _ _ hlm HM.out HT.out hf).mono ?_; rintro e w1 ⟨rfl, rfl⟩))
      refine (alts_is ao c ts 0 _ _ _ _ (by omega) HX.out HC.out HT.out HG).mono ?_
      rintro e w1 ⟨xo, xc, rfl, hb1, ha1⟩
      go_wp2_with (first | (go_at_call 10; refine (rwakes_any _).mono ?_; rintro e w2 ⟨rfl, hb2⟩))
      go_ret
      have hb1a : Below w.heap.size w (w1.alloc (Obj.cells #[Value.int IntKind.i64 n, Value.int IntKind.i64 a] 28)) := hb1.out.alloc hb1.out.size _
      exact ⟨rfl, hb1a.trans (hb2.mono hb1a.size)⟩
end Go.Proofs.Ytjcgnablfhkmoaa
