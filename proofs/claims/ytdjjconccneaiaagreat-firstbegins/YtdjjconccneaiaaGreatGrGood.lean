/-
  Layer 3 (grammar): whether a grammar may be: comeInOrder, sizesFit, textsFit, ruleFits, rulesFit, namesInOrder, termsInOrder, Good.
-/
import Derived.Test.YtdjjconccneaiaaGreatGrAlike
import Derived.Test.YtdjjconccneaiaaGreatGrMath
namespace Go.Proofs.YtdjjconccneaiaaGreat
open Go.RowKit

set_option maxHeartbeats 800000 in
theorem comeInOrder_is (r : Bool) (xs : List Int) (hl : xs.length ≤ 2000) (low high : Int) (h0 : 0 ≤ low ∧ low ≤ 4000) (ao : Option Addr) (c : Nat) (w : World) (h : IntsAt w.heap.size w ao xs) (hr : Gr.inOrder xs low high = r) :
    Calls Tryz.prog 74 #[.slice ao xs.length c, .int .i64 low, .int .i64 high] w fun e w' => e = .returned (.bool r) ∧ w' = w := by
  have HC : Hid _ := h.get
  have HR : Hid ((Gr.comes xs low == some high) = r) := hr
  clear h hr
  go_enter Tryz.func74, Tryz.ntmps74
  go_wp2_with fail
  go_loop [7, 13] (fun v i => ∃ (q : Nat) (n : Int), q ≤ xs.length ∧ i = .int .i64 q ∧ v = .int .i64 n ∧ low ≤ n ∧ n ≤ low + q ∧ Hid (Gr.comes xs low = Gr.comes (xs.drop q) n)) (fun _ i => xs.length - (intOf i).toNat)
  case atStart => exact ⟨0, low, Nat.zero_le _, rfl, rfl, Int.le_refl _, by omega, by show _ = _; rw [List.drop_zero]⟩
  case round =>
    obtain ⟨q, n, hq, rfl, rfl, hn1, hn2, hE⟩ := hrel
    by_cases hlt : q < xs.length
    · have HD : Hid (xs.drop q = xs[q] :: xs.drop (q + 1)) := List.drop_eq_getElem_cons hlt
      obtain ⟨b, o, rfl, hb, _, c0⟩ := HC.out q hlt
      generalize xs[q] = x at *
      by_cases h1 : n < x
      · have R : Hid (r = false) := by show _ = _; rw [← HR.out, hE.out, HD.out, Gr.comes_large h1]; rfl
        clear hE HD
        go_wp2_with fail
        go_ret
        exact ⟨ret_bool R.out.symm, rfl⟩
      · have hd : decide (n < x) = false := by simp; omega
        by_cases h2 : x = n
        · have R : Hid (Gr.comes xs low = Gr.comes (xs.drop (q + 1)) (n + 1)) := by show _ = _; rw [hE.out, HD.out, Gr.comes_next h2]
          subst h2
          clear hE HD h1
          go_wp2_with fail
          go_round
          case rel => exact ⟨q + 1, x + 1, by omega, by go_num, rfl, by omega, by omega, R⟩
          case measure => simp [intOf]; omega
        · have R : Hid (Gr.comes xs low = Gr.comes (xs.drop (q + 1)) n) := by show _ = _; rw [hE.out, HD.out, Gr.comes_came h1 h2]
          have h2' : (x == n) = false := by simp [h2]
          clear hE HD h1 h2
          go_wp2_with fail
          go_round
          case rel => exact ⟨q + 1, n, by omega, by go_num, rfl, by omega, by omega, R⟩
          case measure => simp [intOf]; omega
    · have R : Hid ((n == high) = r) := by
        show _ = _; rw [← HR.out, hE.out, List.drop_of_length_le (by omega)]
        rw [Bool.eq_iff_iff]; simp [Gr.comes]
      clear hE
      go_wp2_with fail
      go_ret
      exact ⟨ret_bool R.out, rfl⟩

set_option maxHeartbeats 800000 in
theorem sizesFit_is (r : Bool) (g : Gr.Gm) (A : GA) (w : World) (hr : Gr.sizes g = r) :
    Calls Tryz.prog 41 #[.agg (gmCells g A)] w fun e w' => e = .returned (.bool r) ∧ Below w.heap.size w w' := by
  have R : Hid (decide (1 ≤ g.names.length ∧ g.names.length ≤ 40 ∧ g.terms.length ≤ 40 ∧ 1 ≤ g.rules.length ∧ g.rules.length ≤ 60) = r) := hr
  clear hr
  unfold gmCells
  go_enter Tryz.func41, Tryz.ntmps41
  go_wp2
  all_goals go_ret
  all_goals refine ⟨ret_bool ?_, (Below.refl _ w).alloc (Nat.le_refl _) _⟩
  all_goals (rw [← R.out, Bool.eq_iff_iff]; simp <;> omega)

set_option maxHeartbeats 1600000 in
theorem namesFit_is (r : Bool) (ss : List ByteArray) (hl : ss.length ≤ 2000) (ht : ∀ s ∈ ss, s.size ≤ maxLen) (ao : Option Addr) (c : Nat) (hc : ss.length ≤ c ∧ c ≤ maxLen) (w : World) (h : StrsAt w.heap.size w ao ss) (hr : Gr.each (fun s => Lx.isName s.data.toList) ss = r) :
    Calls Tryz.prog 42 #[.slice ao ss.length c, .func (.func 43) #[] #[]] w fun e w' => e = .returned (.bool r) ∧ w' = w := by
  have HS : Hid (StrsAt w.heap.size w ao ss) := h
  have HT : Hid _ := ht
  have hc1 := hc.1
  have hc2 : c ≤ 9223372036854775807 := hc.2
  have HA : Hid ((∀ k (hk : k < ss.length), (Lx.isName ss[k].data.toList && !Gr.has ss[k] (ss.take k)) = true) → r = true) := fun hh => by rw [← hr, Gr.each_all hh]
  have HN : Hid (∀ k (hk : k < ss.length), (Lx.isName ss[k].data.toList && !Gr.has ss[k] (ss.take k)) = false → r = false) := fun k hk hh => by rw [← hr, Gr.each_fail k hk hh]
  clear h hr ht hc
  go_enter Tryz.func42, Tryz.ntmps42
  go_wp2_with fail
  go_loop [9] (fun i => ∃ (q : Nat), q ≤ ss.length ∧ i = .int .i64 q ∧ Hid (∀ k (hk : k < ss.length), k < q → (Lx.isName ss[k].data.toList && !Gr.has ss[k] (ss.take k)) = true)) (fun i => ss.length - (intOf i).toNat)
  case atStart => exact ⟨0, Nat.zero_le _, rfl, fun k hk h => by omega⟩
  case round =>
    obtain ⟨q, hq, rfl, hE⟩ := hrel
    by_cases hlt : q < ss.length
    · obtain ⟨b, o, rfl, hb, _, c0⟩ := HS.out.get q hlt
      have htq := HT.out ss[q] (List.getElem_mem hlt)
      have HQ : Hid ((ss.take q).length = q) := by show _ = _; rw [List.length_take]; omega
      have HST : Hid (StrsAt w.heap.size w (some ⟨b, o, none⟩) (ss.take q)) := HS.out.take q
      have HNq : Hid _ := HN.out q hlt
      have HEq : Hid ((Lx.isName ss[q].data.toList && !Gr.has ss[q] (ss.take q)) = true → ∀ k (hk : k < ss.length), k < q + 1 → (Lx.isName ss[k].data.toList && !Gr.has ss[k] (ss.take k)) = true) := fun h k hk hk2 => by
        by_cases e : k = q
        · subst e; exact h
        · exact hE.out k hk (by omega)
      generalize ss[q] = x at *
      cases hp : Lx.isName x.data.toList
      · have R : Hid (r = false) := HNq.out (by rw [hp]; rfl)
        clear HNq HEq hE HN HA
        go_wp2_with (first | (go_at_call 43; refine (isName_any _ _ htq).mono ?_; rintro e w1 ⟨rfl, rfl⟩; rw [hp]))
        go_ret
        exact ⟨ret_bool R.out.symm, rfl⟩
      · cases hin : Gr.has x (ss.take q)
        · have R : Hid _ := HEq.out (by rw [hp, hin]; rfl)
          have HCT : Hid (∀ _ : Unit, _) := fun _ => containsStr_is false (ss.take q) (by rw [HQ.out]; omega) (some ⟨b, o, none⟩) c x w HST.out hin
          rw [HQ.out] at HCT
          clear HNq HEq hE HN HA
          go_wp2_with (first | (go_at_call 43; refine (isName_any _ _ htq).mono ?_; rintro e w1 ⟨rfl, rfl⟩; rw [hp]) | (go_at_call 70; refine (HCT.out ()).mono ?_; rintro e w1 ⟨rfl, rfl⟩))
          go_round
          case rel => exact ⟨q + 1, by omega, by go_num, R⟩
          case measure => simp [intOf]; omega
        · have R : Hid (r = false) := HNq.out (by rw [hp, hin]; rfl)
          have HCT : Hid (∀ _ : Unit, _) := fun _ => containsStr_is true (ss.take q) (by rw [HQ.out]; omega) (some ⟨b, o, none⟩) c x w HST.out hin
          rw [HQ.out] at HCT
          clear HNq HEq hE HN HA
          go_wp2_with (first | (go_at_call 43; refine (isName_any _ _ htq).mono ?_; rintro e w1 ⟨rfl, rfl⟩; rw [hp]) | (go_at_call 70; refine (HCT.out ()).mono ?_; rintro e w1 ⟨rfl, rfl⟩))
          go_ret
          exact ⟨ret_bool R.out.symm, rfl⟩
    · have R : Hid (r = true) := HA.out (fun k hk => hE.out k hk (by omega))
      clear hE HA HN
      go_wp2_with fail
      go_ret
      exact ⟨ret_bool R.out.symm, rfl⟩

set_option maxHeartbeats 1600000 in
theorem termsFit_is (r : Bool) (ss : List ByteArray) (hl : ss.length ≤ 2000) (ht : ∀ s ∈ ss, s.size ≤ maxLen) (ao : Option Addr) (c : Nat) (hc : ss.length ≤ c ∧ c ≤ maxLen) (w : World) (h : StrsAt w.heap.size w ao ss) (hr : Gr.each (fun s => Lx.isTerm s.data.toList) ss = r) :
    Calls Tryz.prog 42 #[.slice ao ss.length c, .func (.func 44) #[] #[]] w fun e w' => e = .returned (.bool r) ∧ w' = w := by
  have HS : Hid (StrsAt w.heap.size w ao ss) := h
  have HT : Hid _ := ht
  have hc1 := hc.1
  have hc2 : c ≤ 9223372036854775807 := hc.2
  have HA : Hid ((∀ k (hk : k < ss.length), (Lx.isTerm ss[k].data.toList && !Gr.has ss[k] (ss.take k)) = true) → r = true) := fun hh => by rw [← hr, Gr.each_all hh]
  have HN : Hid (∀ k (hk : k < ss.length), (Lx.isTerm ss[k].data.toList && !Gr.has ss[k] (ss.take k)) = false → r = false) := fun k hk hh => by rw [← hr, Gr.each_fail k hk hh]
  clear h hr ht hc
  go_enter Tryz.func42, Tryz.ntmps42
  go_wp2_with fail
  go_loop [9] (fun i => ∃ (q : Nat), q ≤ ss.length ∧ i = .int .i64 q ∧ Hid (∀ k (hk : k < ss.length), k < q → (Lx.isTerm ss[k].data.toList && !Gr.has ss[k] (ss.take k)) = true)) (fun i => ss.length - (intOf i).toNat)
  case atStart => exact ⟨0, Nat.zero_le _, rfl, fun k hk h => by omega⟩
  case round =>
    obtain ⟨q, hq, rfl, hE⟩ := hrel
    by_cases hlt : q < ss.length
    · obtain ⟨b, o, rfl, hb, _, c0⟩ := HS.out.get q hlt
      have htq := HT.out ss[q] (List.getElem_mem hlt)
      have HQ : Hid ((ss.take q).length = q) := by show _ = _; rw [List.length_take]; omega
      have HST : Hid (StrsAt w.heap.size w (some ⟨b, o, none⟩) (ss.take q)) := HS.out.take q
      have HNq : Hid _ := HN.out q hlt
      have HEq : Hid ((Lx.isTerm ss[q].data.toList && !Gr.has ss[q] (ss.take q)) = true → ∀ k (hk : k < ss.length), k < q + 1 → (Lx.isTerm ss[k].data.toList && !Gr.has ss[k] (ss.take k)) = true) := fun h k hk hk2 => by
        by_cases e : k = q
        · subst e; exact h
        · exact hE.out k hk (by omega)
      generalize ss[q] = x at *
      cases hp : Lx.isTerm x.data.toList
      · have R : Hid (r = false) := HNq.out (by rw [hp]; rfl)
        clear HNq HEq hE HN HA
        go_wp2_with (first | (go_at_call 44; refine (isTerm_any _ _ htq).mono ?_; rintro e w1 ⟨rfl, rfl⟩; rw [hp]))
        go_ret
        exact ⟨ret_bool R.out.symm, rfl⟩
      · cases hin : Gr.has x (ss.take q)
        · have R : Hid _ := HEq.out (by rw [hp, hin]; rfl)
          have HCT : Hid (∀ _ : Unit, _) := fun _ => containsStr_is false (ss.take q) (by rw [HQ.out]; omega) (some ⟨b, o, none⟩) c x w HST.out hin
          rw [HQ.out] at HCT
          clear HNq HEq hE HN HA
          go_wp2_with (first | (go_at_call 44; refine (isTerm_any _ _ htq).mono ?_; rintro e w1 ⟨rfl, rfl⟩; rw [hp]) | (go_at_call 70; refine (HCT.out ()).mono ?_; rintro e w1 ⟨rfl, rfl⟩))
          go_round
          case rel => exact ⟨q + 1, by omega, by go_num, R⟩
          case measure => simp [intOf]; omega
        · have R : Hid (r = false) := HNq.out (by rw [hp, hin]; rfl)
          have HCT : Hid (∀ _ : Unit, _) := fun _ => containsStr_is true (ss.take q) (by rw [HQ.out]; omega) (some ⟨b, o, none⟩) c x w HST.out hin
          rw [HQ.out] at HCT
          clear HNq HEq hE HN HA
          go_wp2_with (first | (go_at_call 44; refine (isTerm_any _ _ htq).mono ?_; rintro e w1 ⟨rfl, rfl⟩; rw [hp]) | (go_at_call 70; refine (HCT.out ()).mono ?_; rintro e w1 ⟨rfl, rfl⟩))
          go_ret
          exact ⟨ret_bool R.out.symm, rfl⟩
    · have R : Hid (r = true) := HA.out (fun k hk => hE.out k hk (by omega))
      clear hE HA HN
      go_wp2_with fail
      go_ret
      exact ⟨ret_bool R.out.symm, rfl⟩

end Go.Proofs.YtdjjconccneaiaaGreat
