/-
  LexRow: two texts with a newline between have both ones' tokens, the second one's moved on; a fault of the first one is the fault. No condition.
-/
import Derived.Test.YtpeleedpbdnhmaaLexWakes
import Derived.Test.YtpeleedpbdnhmaaLexPlacesMath
import Derived.Test.YtpeleedpbdnhmaaLexRunMath
import Derived.Deep.QuietTactic
import Derived.BigQuiet
import Derived.WalkSmall
namespace Go.Proofs.Ytpeleedpbdnhmaa
open Go.RowKit

theorem tokG_cases (l : List UInt8) (h : l.length ≤ 2000) : (∃ ts, tokensG l = (0, 0, ts) ∧ Lx.tokens l = .ok ts) ∨ (∃ q : Nat, tokensG l = ((11 : Int), (q : Int), []) ∧ Lx.tokens l = .error q) := by
  unfold tokensG
  rw [if_neg (by omega)]
  cases hr : Lx.tokens l with
  | ok ts => exact .inl ⟨ts, rfl, rfl⟩
  | error q => exact .inr ⟨q, rfl, rfl⟩

theorem row_lists (s t : ByteArray) : (s ++ ⟨#[10]⟩ ++ t : ByteArray).data.toList = s.data.toList ++ 10 :: t.data.toList := by simp

theorem row_size (s t : ByteArray) : (s ++ ⟨#[10]⟩ ++ t : ByteArray).size = s.size + 1 + t.size := by
  simp only [ByteArray.size_append]; rfl

set_option maxRecDepth 100000 in
set_option maxHeartbeats 4000000 in
theorem lexRow_walk (s t : ByteArray) (w : World) (hs : s.size ≤ 140737488351232) (ht : t.size ≤ 140737488351232) :
    Calls Try.prog 5 #[.string s, .string t] w fun e w' => e = .returned (.bool true) ∧ Below w.heap.size w w' := by
  have hs' : s.size ≤ maxLen := by unfold maxLen; omega
  have ht' : t.size ≤ maxLen := by unfold maxLen; omega
  by_cases h2 : 1990 < s.size + t.size
  · go_enter Try.func5, Try.ntmps5
    go_wp2_with (go_at_call 9; refine (wakes_any _).mono ?_; rintro e w1 ⟨rfl, hb⟩)
    go_ret
    exact ⟨rfl, hb⟩
  · have LS : s.data.toList.length = s.size := by simp
    have LT : t.data.toList.length = t.size := by simp
    have hc' : (s ++ ⟨#[10]⟩ ++ t : ByteArray).size ≤ maxLen := by rw [row_size]; unfold maxLen; omega
    have hlc : (s ++ ⟨#[10]⟩ ++ t : ByteArray).data.toList.length ≤ 2000 := by rw [row_lists, List.length_append, List.length_cons, LS, LT]; omega
    have hn := Lx.tokens_newline s.data.toList t.data.toList
    rw [LS] at hn
    obtain ⟨E1, P1, A, E2, P2, B, E3, P3, C, G1, G2, G3, hcase⟩ : ∃ (E1 P1 : Int) (A : List Lx.Tok) (E2 P2 : Int) (B : List Lx.Tok) (E3 P3 : Int) (C : List Lx.Tok),
        Hid (tokensG s.data.toList = (E1, P1, A)) ∧ Hid (tokensG t.data.toList = (E2, P2, B)) ∧ Hid (tokensG (s ++ ⟨#[10]⟩ ++ t : ByteArray).data.toList = (E3, P3, C)) ∧
        ((E1 = 11 ∧ E3 = 11 ∧ P3 = P1 ∧ C = []) ∨ (E1 = 0 ∧ E2 = 11 ∧ E3 = 11 ∧ 0 ≤ P2 ∧ P2 ≤ 2000 ∧ P3 = P2 + s.size + 1 ∧ C = []) ∨
         (E1 = 0 ∧ E2 = 0 ∧ E3 = 0 ∧ C = A ++ B.map (Lx.shiftT (s.size + 1)) ∧ A.length ≤ 2000 ∧ B.length ≤ 2000 ∧ ∀ x ∈ B, x.pos ≤ 2000)) := by
      rcases tokG_cases s.data.toList (by omega) with ⟨ts, h1, h2⟩ | ⟨q, h1, h2⟩
      · rcases tokG_cases t.data.toList (by omega) with ⟨us, h3, h4⟩ | ⟨q, h3, h4⟩
        · refine ⟨0, 0, ts, 0, 0, us, 0, 0, ts ++ us.map (Lx.shiftT (s.size + 1)), h1, h3, ?_, .inr (.inr ⟨rfl, rfl, rfl, rfl, ?_, ?_, ?_⟩)⟩
          · show _ = _
            unfold tokensG
            rw [if_neg (by omega), row_lists, hn, h2, h4]; rfl
          · have := Lx.tokens_count h2; omega
          · have := Lx.tokens_count h4; omega
          · intro x hx
            have := Lx.tokens_pos h4 x hx
            omega
        · have := Lx.tokens_error h4
          refine ⟨0, 0, ts, 11, q, [], 11, ((q + (s.size + 1) : Nat) : Int), [], h1, h3, ?_, .inr (.inl ⟨rfl, rfl, rfl, by omega, by omega, by omega, rfl⟩)⟩
          show _ = _
          unfold tokensG
          rw [if_neg (by omega), row_lists, hn, h2, h4]; rfl
      · refine ⟨11, q, [], (tokensG t.data.toList).1, (tokensG t.data.toList).2.1, (tokensG t.data.toList).2.2, 11, q, [], h1, rfl, ?_, .inl ⟨rfl, rfl, rfl, rfl⟩⟩
        show _ = _
        unfold tokensG
        rw [if_neg (by omega), row_lists, hn, h2]
    clear hn LS LT hlc
    go_enter Try.func5, Try.ntmps5
    go_wp2_with fail
    refine (tokens_is s E1 P1 A _ hs' G1).mono ?_
    rintro e w1 ⟨aoA, cA, rfl, hb1, hownA⟩
    go_wp2_with fail
    refine (tokens_is t E2 P2 B _ ht' G2).mono ?_
    rintro e w2 ⟨aoB, cB, rfl, hb2, hownB⟩
    have hownA := ownsRow_below (hownA.alloc (.cells #[.int .i64 E1, .int .i64 P1] 26)) hb2
    go_wp2_with fail
    refine (tokens_is _ E3 P3 C _ hc' G3).mono ?_
    rintro e w3 ⟨aoC, cC, rfl, hb3, hownC⟩
    have hownA := ownsRow_below (hownA.alloc (.cells #[.int .i64 E2, .int .i64 P2] 26)) hb3
    have hownB := ownsRow_below (hownB.alloc (.cells #[.int .i64 E2, .int .i64 P2] 26)) hb3
    have z2 : w1.heap.size < w2.heap.size := by have := hb2.size; simp at this; omega
    have z3 : w2.heap.size < w3.heap.size := by have := hb3.size; simp at this; omega
    have x1 : w3.cell? ⟨w1.heap.size, 0, none⟩ = some (.int .i64 E1) := later_alloc hb3 ((hb2.cell (by simp)).trans (by simp [go_sem]))
    have x2 : w3.cell? ⟨w1.heap.size, 1, none⟩ = some (.int .i64 P1) := later_alloc hb3 ((hb2.cell (by simp)).trans (by simp [go_sem]))
    have x3 : w3.cell? ⟨w2.heap.size, 0, none⟩ = some (.int .i64 E2) := (hb3.cell (by simp)).trans (by simp [go_sem])
    have x4 : w3.cell? ⟨w2.heap.size, 1, none⟩ = some (.int .i64 P2) := (hb3.cell (by simp)).trans (by simp [go_sem])
    have hB3 : Below w.heap.size w w3 := by
      have q2 : Below w.heap.size w w2 := (hb1.alloc hb1.size _).trans (hb2.mono (by have := hb1.size; simp; omega))
      exact (q2.alloc q2.size _).trans (hb3.mono (by have := q2.size; simp; omega))
    have z4 : w1.heap.size < w3.heap.size := by omega
    clear hb1 hb2 hb3 G1 G2 G3
    rcases hcase with ⟨rfl, rfl, rfl, rfl⟩ | ⟨rfl, rfl, rfl, hp1, hp2, hP3, rfl⟩ | ⟨rfl, rfl, rfl, hC, hA2, hB2, hpos⟩
    · clear hownA hownB hownC
      simp only [List.length_nil]
      go_wp2_with (go_at_call 9; refine (wakes_any _).mono ?_; rintro e w5 ⟨rfl, hb5⟩)
      go_ret
      exact ⟨rfl, (hB3.alloc hB3.size _).trans (hb5.mono (by have := hB3.size; simp; omega))⟩
    · clear hownA hownB hownC
      subst hP3
      simp only [List.length_nil]
      go_wp2_with (go_at_call 9; refine (wakes_any _).mono ?_; rintro e w5 ⟨rfl, hb5⟩)
      go_ret
      exact ⟨rfl, (hB3.alloc hB3.size _).trans (hb5.mono (by have := hB3.size; simp; omega))⟩
    · have hlen : C.length = A.length + B.length := by rw [hC]; simp
      have hlen1 : C.length ≤ A.length + B.length := by omega
      have hlen2 : A.length + B.length ≤ C.length := by omega
      clear hlen
      have HC : Hid (C = A ++ B.map (Lx.shiftT (s.size + 1))) := hC
      have hne : ((C.length : Int) != (A.length : Int) + (B.length : Int)) = false := by rw [bne_eq_false_iff_eq]; omega
      have HPos : Hid (∀ x ∈ B, x.pos ≤ 2000) := hpos
      obtain ⟨ao, c, hv, hr⟩ := toks_read hownA
      simp only [Value.slice.injEq, true_and] at hv
      obtain ⟨rfl, rfl⟩ := hv
      have RA : Hid _ := hr
      clear hr
      obtain ⟨ao, c, hv, hr⟩ := toks_read hownB
      simp only [Value.slice.injEq, true_and] at hv
      obtain ⟨rfl, rfl⟩ := hv
      have RB : Hid _ := hr
      clear hr
      obtain ⟨ao, c, hv, hr⟩ := toks_read hownC
      simp only [Value.slice.injEq, true_and] at hv
      obtain ⟨rfl, rfl⟩ := hv
      have RC : Hid _ := hr
      clear hr hownA hownB hownC hC hpos
      go_wp2_with fail
      go_loopw [11] (fun i wr => ∃ k : Nat, k ≤ C.length ∧ i = .int .i64 k ∧ Below (w3.alloc (.cells #[.int .i64 0, .int .i64 P3] 26)).heap.size (w3.alloc (.cells #[.int .i64 0, .int .i64 P3] 26)) wr) (fun i _ => C.length - (intOf i).toNat)
      case atStart => exact ⟨0, Nat.zero_le _, rfl, Below.refl _ _⟩
      case round =>
        obtain ⟨k, hk, rfl, hbr⟩ := hrel
        have zr : w3.heap.size < wr.heap.size := by have := hbr.size; simp at this; omega
        by_cases hlt : k < C.length
        · obtain ⟨gC, rfl, _, hgC, c0, c1, c2⟩ := RC.out k hlt
          have c0 := later_alloc hbr c0
          have c1 := later_alloc hbr c1
          have c2 := later_alloc hbr c2
          have hgC : gC < wr.heap.size := by omega
          by_cases hkA : k < A.length
          · obtain ⟨gA, rfl, _, hgA, a0, a1, a2⟩ := RA.out k hkA
            have a0 := later_alloc hbr a0
            have a1 := later_alloc hbr a1
            have a2 := later_alloc hbr a2
            have hgA : gA < wr.heap.size := by omega
            have he : C[k] = A[k] := by
              have e := HC.out
              subst e
              exact List.getElem_append_left hkA
            rw [he] at c0 c1 c2
            clear he
            generalize A[k] = x at *
            obtain ⟨kd, tx, ps⟩ := x
            simp only at a0 a1 a2 c0 c1 c2
            go_wp2_with fail
            go_quiet (fail)
            go_wp2_with fail
            go_roundw
            case rel => exact ⟨k + 1, by omega, by go_num, below_drewN (hbr.alloc (by have := hbr.size; simpa using this) _) _⟩
            case measure => simp [intOf]; omega
          · obtain ⟨j, hj⟩ : ∃ j, k = A.length + j := ⟨k - A.length, by omega⟩
            have hjB : j < B.length := by omega
            obtain ⟨gB, rfl, _, hgB, a0, a1, a2⟩ := RB.out j hjB
            have a0 := later_alloc hbr a0
            have a1 := later_alloc hbr a1
            have a2 := later_alloc hbr a2
            have hgB : gB < wr.heap.size := by omega
            have hps := HPos.out B[j] (List.getElem_mem hjB)
            have he : C[k] = Lx.shiftT (s.size + 1) B[j] := by
              have e := HC.out
              subst e
              subst hj
              rw [List.getElem_append_right (by omega)]
              simp
            rw [he] at c0 c1 c2
            clear he
            generalize B[j] = x at *
            obtain ⟨kd, tx, ps⟩ := x
            simp only [Lx.shiftT] at a0 a1 a2 c0 c1 c2 hps
            have hc2 : (((ps + (s.size + 1) : Nat) : Int)) = (ps : Int) + ((s.size : Int) + 1) := by omega
            rw [hc2] at c2
            have hj1 : k ≤ A.length + j := by omega
            have hj2 : A.length + j ≤ k := by omega
            have hjj : (((k : Int) - (A.length : Int)).toNat) = j := by omega
            clear hc2 hj
            go_wp2_with fail
            go_quiet (fail)
            go_wp2_with fail
            go_roundw
            case rel => exact ⟨k + 1, by omega, by go_num, below_drewN (hbr.alloc (by have := hbr.size; simpa using this) _) _⟩
            case measure => simp [intOf]; omega
        · go_wp2_with (go_at_call 9; refine (wakes_any _).mono ?_; rintro e w5 ⟨rfl, hb5⟩)
          go_ret
          have q : Below w.heap.size w wr := (hB3.alloc hB3.size _).trans (hbr.mono (by have := hB3.size; simp; omega))
          exact ⟨rfl, q.trans (hb5.mono q.size)⟩
end Go.Proofs.Ytpeleedpbdnhmaa
