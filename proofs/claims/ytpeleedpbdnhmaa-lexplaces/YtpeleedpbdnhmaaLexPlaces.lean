/-
  LexPlaces: of every text each token stands where it says, behind the one ahead of it; between tokens there are blanks and notes alone; a fault lies within the text. No condition.
-/
import Derived.Test.YtpeleedpbdnhmaaLexWakes
import Derived.Test.YtpeleedpbdnhmaaLexPlacesMath
import Derived.Deep.DeepCutAuto
namespace Go.Proofs.Ytpeleedpbdnhmaa
open Go.RowKit

theorem tokensG_cases (l : List UInt8) (h : l.length ≤ 2000) : (∃ ts, tokensG l = (0, 0, ts) ∧ Lx.tokens l = .ok ts) ∨ (∃ q : Nat, tokensG l = ((11 : Int), (q : Int), []) ∧ Lx.tokens l = .error q) := by
  unfold tokensG
  rw [if_neg (by omega)]
  cases hr : Lx.tokens l with
  | ok ts => exact .inl ⟨ts, rfl, rfl⟩
  | error q => exact .inr ⟨q, rfl, rfl⟩

set_option maxRecDepth 100000 in
set_option maxHeartbeats 4000000 in
theorem lexPlaces_walk (s : ByteArray) (w : World) (hs : s.size ≤ maxLen) :
    Calls Try.prog 4 #[.string s] w fun e w' => e = .returned (.bool true) ∧ Below w.heap.size w w' := by
  have hs' := hs
  unfold maxLen at hs
  by_cases h2 : 2000 < s.size
  · go_enter Try.func4, Try.ntmps4
    go_wp2_with (go_at_call 9; refine (wakes_any _).mono ?_; rintro e w1 ⟨rfl, hb⟩)
    go_ret
    exact ⟨rfl, hb⟩
  · have HL : Hid (s.data.toList.length = s.size) := by show _ = _; simp
    rcases tokensG_cases s.data.toList (by rw [HL.out]; omega) with ⟨ts, hG, hT⟩ | ⟨q, hG, hT⟩
    · have HG : Hid (tokensG s.data.toList = (0, 0, ts)) := hG
      have HC : Hid (Lx.Chain s.data.toList 0 ts) := Lx.tokens_chain hT
      have hcount := Lx.tokens_count hT
      rw [HL.out] at hcount
      clear hG hT
      go_enter Try.func4, Try.ntmps4
      go_wp2_with fail
      refine (tokens_is s 0 0 ts _ hs' HG).mono ?_
      rintro e w1 ⟨ao, c, rfl, hb, hown⟩
      obtain ⟨ao', c', hv, hr⟩ := toks_read hown
      simp only [Value.slice.injEq, true_and] at hv
      obtain ⟨rfl, rfl⟩ := hv
      have HR : Hid _ := hr
      clear hr hown HG
      go_wp2_with fail
      go_loop [5, 6] (fun a i => ∃ k p : Nat, k ≤ ts.length ∧ i = .int .i64 k ∧ p ≤ s.size ∧ a = .int .i64 p ∧ Hid (Lx.Chain s.data.toList p (ts.drop k))) (fun _ i => ts.length + 1 - (intOf i).toNat)
      case atStart => exact ⟨0, 0, Nat.zero_le _, rfl, Nat.zero_le _, rfl, by rw [List.drop_zero]; exact HC⟩
      case round =>
        obtain ⟨k, p, hk, rfl, hp, rfl, hC⟩ := hrel
        clear HC
        by_cases hlt : k < ts.length
        · obtain ⟨g, rfl, hg0, hg1, a0, a1, a2⟩ := HR.out k hlt
          have C := hC.out
          rw [List.drop_eq_getElem_cons hlt] at C
          generalize ts[k] = t at *
          obtain ⟨kd, tx, ps⟩ := t
          obtain ⟨_, c1, c2, c3, c4, c5⟩ := C
          simp only at a0 a1 a2 c1 c2 c3 c4 c5
          rw [HL.out] at c3
          have hgp : Hid (p + Lx.gap false (s.data.toList.drop p) = ps) := c1.symm
          have C4 : Hid ((s.data.toList.drop ps).take (Lx.written kd tx).length = Lx.written kd tx) := c4
          have C5 : Hid (Lx.Chain s.data.toList (ps + (Lx.written kd tx).length) (ts.drop (k + 1))) := c5
          have hps : p ≤ ps := by omega
          clear hC c1 c4 c5
          go_wp2_with fail
          go_loop [5] (fun a => ∃ q : Nat, q ≤ ps ∧ a = .int .i64 q ∧ Hid (q + Lx.gap false (s.data.toList.drop q) = ps)) (fun a => ps - (intOf a).toNat)
          case atStart => exact ⟨p, hps, rfl, hgp⟩
          case round =>
            obtain ⟨q, hq, rfl, hE⟩ := hrel
            by_cases hqn : q < ps
            · have hqs : q < s.size := by omega
              have HS : Hid (s.data.toList.drop q = s[q] :: s.data.toList.drop (q + 1)) := Lx.drop_cons s q hqs
              have e := hE.out
              rw [HS.out] at e
              have b35 : ((s[q].toNat : Int) == 35) = (s[q] == 35) := Lx.beqI s[q] 35
              cases q35 : (s[q] == 35)
              · rw [q35] at b35
                have hbl := Lx.gap_pos (c := s[q]) (r := s.data.toList.drop (q + 1)) (by omega) q35
                have R : Hid (q + 1 + Lx.gap false (s.data.toList.drop (q + 1)) = ps) := by
                  rw [Lx.gap_blank hbl] at e
                  show _ = _
                  omega
                have b32 : ((s[q].toNat : Int) == 32) = (s[q] == 32) := Lx.beqI s[q] 32
                have b9 : ((s[q].toNat : Int) == 9) = (s[q] == 9) := Lx.beqI s[q] 9
                have b10 : ((s[q].toNat : Int) == 10) = (s[q] == 10) := Lx.beqI s[q] 10
                clear hE HS e q35
                cases z1 : (s[q] == 32)
                · have m1 : ((s[q].toNat : Int) != 32) = true := by rw [bne, b32, z1]; rfl
                  cases z2 : (s[q] == 9)
                  · have m2 : ((s[q].toNat : Int) != 9) = true := by rw [bne, b9, z2]; rfl
                    have z3 : (s[q] == 10) = true := by simpa [z1, z2] using hbl
                    have m3 : ((s[q].toNat : Int) != 10) = false := by rw [bne, b10, z3]; rfl
                    clear hbl z1 z2 z3 b32 b9 b10
                    go_wp2_with fail
                    go_round
                    case rel => exact ⟨q + 1, by omega, by go_num, R⟩
                    case measure => simp [intOf]; omega
                  · have m2 : ((s[q].toNat : Int) != 9) = false := by rw [bne, b9, z2]; rfl
                    clear hbl z1 z2 b32 b9 b10
                    go_wp2_with fail
                    go_round
                    case rel => exact ⟨q + 1, by omega, by go_num, R⟩
                    case measure => simp [intOf]; omega
                · have m1 : ((s[q].toNat : Int) != 32) = false := by rw [bne, b32, z1]; rfl
                  clear hbl z1 b32 b9 b10
                  go_wp2_with fail
                  go_round
                  case rel => exact ⟨q + 1, by omega, by go_num, R⟩
                  case measure => simp [intOf]; omega
              · rw [q35] at b35
                rw [Lx.gap_hash q35, ← HS.out] at e
                have HE : Hid (q + Lx.gap true (s.data.toList.drop q) = ps) := e
                have Q35 : Hid ((s[q] == 35) = true) := q35
                clear hE e HS q35
                go_wp2_with fail
                go_loop [5] (fun a => ∃ r : Nat, q ≤ r ∧ r ≤ ps ∧ a = .int .i64 r ∧ Hid (r + Lx.gap true (s.data.toList.drop r) = ps)) (fun a => ps - (intOf a).toNat)
                case atStart => exact ⟨q, Nat.le_refl _, hq, rfl, HE⟩
                case round =>
                  obtain ⟨r, hr1, hr2, rfl, hF⟩ := hrel
                  clear HE
                  by_cases hrn : r < ps
                  · have hrs : r < s.size := by omega
                    have HS : Hid (s.data.toList.drop r = s[r] :: s.data.toList.drop (r + 1)) := Lx.drop_cons s r hrs
                    have e := hF.out
                    rw [HS.out] at e
                    have b10 : ((s[r].toNat : Int) == 10) = (s[r] == 10) := Lx.beqI s[r] 10
                    cases z : (s[r] == 10)
                    · have m : ((s[r].toNat : Int) != 10) = true := by rw [bne, b10, z]; rfl
                      have R : Hid (r + 1 + Lx.gap true (s.data.toList.drop (r + 1)) = ps) := by
                        rw [Lx.gap_true_more z] at e
                        show _ = _
                        omega
                      clear hF HS e z b10
                      go_wp2_with fail
                      go_round
                      case rel => exact ⟨r + 1, by omega, by omega, by go_num, R⟩
                      case measure => simp [intOf]; omega
                    · have m : ((s[r].toNat : Int) != 10) = false := by rw [bne, b10, z]; rfl
                      have R : Hid (r + Lx.gap false (s.data.toList.drop r) = ps) := by
                        rw [Lx.gap_true_newline z, ← HS.out] at e
                        exact e
                      have hne : q < r := by
                        apply Decidable.byContradiction
                        intro hh
                        obtain rfl : q = r := by omega
                        have z1 := Q35.out
                        simp at z z1
                        rw [z] at z1
                        exact absurd z1 (by decide)
                      clear hF HS e z b10
                      go_wp2_with fail
                      go_round
                      case rel => exact ⟨r, by omega, by go_num, R⟩
                      case measure => simp [intOf]; omega
                  · have R : Hid (r + Lx.gap false (s.data.toList.drop r) = ps) := by
                      have e := hF.out
                      have := Lx.gap_true_nil (l := s.data.toList.drop r) (by omega)
                      show _ = _
                      rw [this]; simp [Lx.gap]; omega
                    clear hF
                    go_wp2_with fail
                    go_round
                    case rel => exact ⟨r, by omega, by go_num, R⟩
                    case measure => simp [intOf]; omega
            · obtain rfl : q = ps := by omega
              clear hE hgp

              have hkl : ((k : Int) == (ts.length : Int)) = false := beq_eq_false_iff_ne.2 (by omega)
              clear hqn hg0 hps hp a2
              by_cases hkd : kd = 2
              · subst hkd
                obtain ⟨Y, hY⟩ : ∃ Y : ByteArray, Y = ⟨tx.toArray⟩ := ⟨_, rfl⟩
                rw [← hY] at a1
                obtain ⟨X, hX⟩ : ∃ X : ByteArray, X = ⟨#[39]⟩ ++ Y ++ ⟨#[39]⟩ := ⟨_, rfl⟩
                have hXl : X.data.toList = Lx.written 2 tx := by rw [hX, hY]; simp [Lx.written]
                have hXs : (Lx.written 2 tx).length = X.size := by rw [← hXl]; simp
                have hY2 : Y.size ≤ 2000 := by
                  have : X.size = Y.size + 2 := by rw [hX]; simp only [ByteArray.size_append]; show 1 + Y.size + 1 = _; omega
                  omega
                rw [hXs] at c2 c3
                have C4' := C4.out
                rw [hXs] at C4'
                have C5' := C5.out
                rw [hXs] at C5'
                have H5 : Hid (Lx.Chain s.data.toList (q + X.size) (ts.drop (k + 1))) := C5'
                have hXe : s.extract q (q + X.size) = X := by
                  have h1 : (s.extract q (q + X.size)).data.toList = X.data.toList := by rw [Lx.extract_list, hXl, ← C4']; congr 1; omega
                  rw [Lx.bytes_ext h1, ← Lx.bytes_ext rfl]
                have HXE : Hid (s.extract q (q + X.size) = X) := hXe
                have HX : Hid (⟨#[39]⟩ ++ Y ++ ⟨#[39]⟩ = X) := hX.symm
                clear hY hX hXl hXs C4 C5 C4' C5' hXe
                go_upto_region 26 with fail
                rw [HX.out]
                have hXe := HXE.out
                have hx0 : ((X.size : Int) == 0) = false := beq_eq_false_iff_ne.2 (by omega)
                have hx1 : decide ((s.size : Int) < (q : Int) + X.size) = false := by simp; omega
                go_wp2_with fail
                go_round
                case rel => exact ⟨k + 1, q + X.size, by omega, by go_num, by omega, by go_num, H5⟩
                case measure => simp [intOf]; omega
              · have hkb : ((kd : Int) == 2) = false := beq_eq_false_iff_ne.2 (by omega)
                obtain ⟨X, hX⟩ : ∃ X : ByteArray, X = ⟨tx.toArray⟩ := ⟨_, rfl⟩
                rw [← hX] at a1
                have hXl : X.data.toList = Lx.written kd tx := by rw [hX]; simp [Lx.written, hkd]
                have hXs : (Lx.written kd tx).length = X.size := by rw [← hXl]; simp
                rw [hXs] at c2 c3
                have C4' := C4.out
                rw [hXs] at C4'
                have C5' := C5.out
                rw [hXs] at C5'
                have H5 : Hid (Lx.Chain s.data.toList (q + X.size) (ts.drop (k + 1))) := C5'
                have hXe : s.extract q (q + X.size) = X := by
                  have h1 : (s.extract q (q + X.size)).data.toList = X.data.toList := by rw [Lx.extract_list, hXl, ← C4']; congr 1; omega
                  rw [Lx.bytes_ext h1, ← Lx.bytes_ext rfl]
                have hx0 : ((X.size : Int) == 0) = false := beq_eq_false_iff_ne.2 (by omega)
                have hx1 : decide ((s.size : Int) < (q : Int) + X.size) = false := by simp; omega
                clear hX hXl hXs C4 C5 C4' C5'
                go_wp2_with fail
                go_round
                case rel => exact ⟨k + 1, q + X.size, by omega, by go_num, by omega, by go_num, H5⟩
                case measure => simp [intOf]; omega
        · obtain rfl : k = ts.length := by omega
          have C := hC.out
          rw [List.drop_length] at C
          obtain ⟨_, c1⟩ := C
          rw [HL.out] at c1
          have hgp : Hid (p + Lx.gap false (s.data.toList.drop p) = s.size) := c1
          have hps : p ≤ s.size := hp
          clear hC c1
          go_wp2_with fail
          go_loop [5] (fun a => ∃ q : Nat, q ≤ s.size ∧ a = .int .i64 q ∧ Hid (q + Lx.gap false (s.data.toList.drop q) = s.size)) (fun a => s.size - (intOf a).toNat)
          case atStart => exact ⟨p, hps, rfl, hgp⟩
          case round =>
            obtain ⟨q, hq, rfl, hE⟩ := hrel
            by_cases hqn : q < s.size
            · have hqs : q < s.size := by omega
              have HS : Hid (s.data.toList.drop q = s[q] :: s.data.toList.drop (q + 1)) := Lx.drop_cons s q hqs
              have e := hE.out
              rw [HS.out] at e
              have b35 : ((s[q].toNat : Int) == 35) = (s[q] == 35) := Lx.beqI s[q] 35
              cases q35 : (s[q] == 35)
              · rw [q35] at b35
                have hbl := Lx.gap_pos (c := s[q]) (r := s.data.toList.drop (q + 1)) (by omega) q35
                have R : Hid (q + 1 + Lx.gap false (s.data.toList.drop (q + 1)) = s.size) := by
                  rw [Lx.gap_blank hbl] at e
                  show _ = _
                  omega
                have b32 : ((s[q].toNat : Int) == 32) = (s[q] == 32) := Lx.beqI s[q] 32
                have b9 : ((s[q].toNat : Int) == 9) = (s[q] == 9) := Lx.beqI s[q] 9
                have b10 : ((s[q].toNat : Int) == 10) = (s[q] == 10) := Lx.beqI s[q] 10
                clear hE HS e q35
                cases z1 : (s[q] == 32)
                · have m1 : ((s[q].toNat : Int) != 32) = true := by rw [bne, b32, z1]; rfl
                  cases z2 : (s[q] == 9)
                  · have m2 : ((s[q].toNat : Int) != 9) = true := by rw [bne, b9, z2]; rfl
                    have z3 : (s[q] == 10) = true := by simpa [z1, z2] using hbl
                    have m3 : ((s[q].toNat : Int) != 10) = false := by rw [bne, b10, z3]; rfl
                    clear hbl z1 z2 z3 b32 b9 b10
                    go_wp2_with fail
                    go_round
                    case rel => exact ⟨q + 1, by omega, by go_num, R⟩
                    case measure => simp [intOf]; omega
                  · have m2 : ((s[q].toNat : Int) != 9) = false := by rw [bne, b9, z2]; rfl
                    clear hbl z1 z2 b32 b9 b10
                    go_wp2_with fail
                    go_round
                    case rel => exact ⟨q + 1, by omega, by go_num, R⟩
                    case measure => simp [intOf]; omega
                · have m1 : ((s[q].toNat : Int) != 32) = false := by rw [bne, b32, z1]; rfl
                  clear hbl z1 b32 b9 b10
                  go_wp2_with fail
                  go_round
                  case rel => exact ⟨q + 1, by omega, by go_num, R⟩
                  case measure => simp [intOf]; omega
              · rw [q35] at b35
                rw [Lx.gap_hash q35, ← HS.out] at e
                have HE : Hid (q + Lx.gap true (s.data.toList.drop q) = s.size) := e
                have Q35 : Hid ((s[q] == 35) = true) := q35
                clear hE e HS q35
                go_wp2_with fail
                go_loop [5] (fun a => ∃ r : Nat, q ≤ r ∧ r ≤ s.size ∧ a = .int .i64 r ∧ Hid (r + Lx.gap true (s.data.toList.drop r) = s.size)) (fun a => s.size - (intOf a).toNat)
                case atStart => exact ⟨q, Nat.le_refl _, hq, rfl, HE⟩
                case round =>
                  obtain ⟨r, hr1, hr2, rfl, hF⟩ := hrel
                  clear HE
                  by_cases hrn : r < s.size
                  · have hrs : r < s.size := by omega
                    have HS : Hid (s.data.toList.drop r = s[r] :: s.data.toList.drop (r + 1)) := Lx.drop_cons s r hrs
                    have e := hF.out
                    rw [HS.out] at e
                    have b10 : ((s[r].toNat : Int) == 10) = (s[r] == 10) := Lx.beqI s[r] 10
                    cases z : (s[r] == 10)
                    · have m : ((s[r].toNat : Int) != 10) = true := by rw [bne, b10, z]; rfl
                      have R : Hid (r + 1 + Lx.gap true (s.data.toList.drop (r + 1)) = s.size) := by
                        rw [Lx.gap_true_more z] at e
                        show _ = _
                        omega
                      clear hF HS e z b10
                      go_wp2_with fail
                      go_round
                      case rel => exact ⟨r + 1, by omega, by omega, by go_num, R⟩
                      case measure => simp [intOf]; omega
                    · have m : ((s[r].toNat : Int) != 10) = false := by rw [bne, b10, z]; rfl
                      have R : Hid (r + Lx.gap false (s.data.toList.drop r) = s.size) := by
                        rw [Lx.gap_true_newline z, ← HS.out] at e
                        exact e
                      have hne : q < r := by
                        apply Decidable.byContradiction
                        intro hh
                        obtain rfl : q = r := by omega
                        have z1 := Q35.out
                        simp at z z1
                        rw [z] at z1
                        exact absurd z1 (by decide)
                      clear hF HS e z b10
                      go_wp2_with fail
                      go_round
                      case rel => exact ⟨r, by omega, by go_num, R⟩
                      case measure => simp [intOf]; omega
                  · have R : Hid (r + Lx.gap false (s.data.toList.drop r) = s.size) := by
                      have e := hF.out
                      have := Lx.gap_true_nil (l := s.data.toList.drop r) (by omega)
                      show _ = _
                      rw [this]; simp [Lx.gap]; omega
                    clear hF
                    go_wp2_with fail
                    go_round
                    case rel => exact ⟨r, by omega, by go_num, R⟩
                    case measure => simp [intOf]; omega
            · have hqN : (s.size : Int) ≤ q := by omega
              clear hE hgp

              have hkl : ((ts.length : Int) == (ts.length : Int)) = true := by simp
              clear hqn
              go_wp2_with (go_at_call 9; refine (wakes_any _).mono ?_; rintro e w5 ⟨rfl, hb5⟩)
              go_ret
              exact ⟨rfl, (hb.alloc hb.size _).trans (hb5.mono (by have := hb.size; simp; omega))⟩
    · have HG : Hid (tokensG s.data.toList = ((11 : Int), (q : Int), [])) := hG
      have hq := Lx.tokens_error hT
      rw [HL.out] at hq
      clear hG hT
      go_enter Try.func4, Try.ntmps4
      go_wp2_with fail
      refine (tokens_is s 11 q [] _ hs' HG).mono ?_
      rintro e w1 ⟨ao, c, rfl, hb, hown⟩
      clear hown HG
      simp only [List.length_nil]
      go_wp2_with (go_at_call 9; refine (wakes_any _).mono ?_; rintro e w5 ⟨rfl, hb5⟩)
      go_ret
      exact ⟨rfl, (hb.alloc hb.size _).trans (hb5.mono (by have := hb.size; simp; omega))⟩
end Go.Proofs.Ytpeleedpbdnhmaa
