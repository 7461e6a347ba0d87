/-
  Layer 3 (grammar): whether a grammar may be: comeInOrder, sizesFit, textsFit, ruleFits, rulesFit, namesInOrder, termsInOrder, Good.
  Layer 3 (grammar): whether a rule fits, whether all do.
-/
import Derived.Test.YtdocbgfpnaiijaaGrAlike
import Derived.Test.YtdocbgfpnaiijaaGrMath
import Derived.Test.YtdocbgfpnaiijaaGrRules
namespace Go.Proofs.Ytdocbgfpnaiijaa
open Go.RowKit

set_option maxHeartbeats 800000 in
theorem comeInOrder_is (r : Bool) (xs : List Int) (hl : xs.length ≤ 2000) (low high : Int) (h0 : 0 ≤ low ∧ low ≤ 4000) (ao : Option Addr) (c : Nat) (w : World) (h : IntsAt w.heap.size w ao xs) (hr : Gr.inOrder xs low high = r) :
    Calls Try.prog 86 #[.slice ao xs.length c, .int .i64 low, .int .i64 high] w fun e w' => e = .returned (.bool r) ∧ w' = w := by
  have HC : Hid _ := h.get
  have HR : Hid ((Gr.comes xs low == some high) = r) := hr
  clear h hr
  go_enter Try.func86, Try.ntmps86
  go_wp2_with fail
  go_loop [7, 13] (fun v i => ∃ (q : Nat) (n : Int), q ≤ xs.length ∧ i = .int .i64 q ∧ v = .int .i64 n ∧ low ≤ n ∧ n ≤ low + q ∧ Hid (Gr.comes xs low = Gr.comes (xs.drop q) n)) (fun _ i => xs.length - (intOf i).toNat)
  case atStart => exact ⟨0, low, Nat.zero_le _, rfl, rfl, Int.le_refl _, by omega, by show _ = _; rw [List.drop_zero]⟩
  case round =>
    obtain ⟨q, n, hq, rfl, rfl, hn1, hn2, hE⟩ := hrel
    by_cases hlt : q < xs.length
    · have HD : Hid (xs.drop q = xs[q] :: xs.drop (q + 1)) := List.drop_eq_getElem_cons hlt
      obtain ⟨b, o, rfl, hb, _, c0⟩ := HC.out q hlt
      generalize xs[q] = x at *
      by_cases h1 : n < x
      · have R : Hid (r = false) := by show _ = _; rw [← HR.out, hE.out, HD.out, Gr.comes_large h1]; rfl
        clear hE HD
        go_wp2_with fail
        go_ret
        exact ⟨ret_bool R.out.symm, rfl⟩
      · have hd : decide (n < x) = false := by simp; omega
        by_cases h2 : x = n
        · have R : Hid (Gr.comes xs low = Gr.comes (xs.drop (q + 1)) (n + 1)) := by show _ = _; rw [hE.out, HD.out, Gr.comes_next h2]
          subst h2
          clear hE HD h1
          go_wp2_with fail
          go_round
          case rel => exact ⟨q + 1, x + 1, by omega, by go_num, rfl, by omega, by omega, R⟩
          case measure => simp [intOf]; omega
        · have R : Hid (Gr.comes xs low = Gr.comes (xs.drop (q + 1)) n) := by show _ = _; rw [hE.out, HD.out, Gr.comes_came h1 h2]
          have h2' : (x == n) = false := by simp [h2]
          clear hE HD h1 h2
          go_wp2_with fail
          go_round
          case rel => exact ⟨q + 1, n, by omega, by go_num, rfl, by omega, by omega, R⟩
          case measure => simp [intOf]; omega
    · have R : Hid ((n == high) = r) := by
        show _ = _; rw [← HR.out, hE.out, List.drop_of_length_le (by omega)]
        rw [Bool.eq_iff_iff]; simp [Gr.comes]
      clear hE
      go_wp2_with fail
      go_ret
      exact ⟨ret_bool R.out, rfl⟩

set_option maxHeartbeats 800000 in
theorem sizesFit_is (r : Bool) (g : Gr.Gm) (A : GA) (w : World) (hr : Gr.sizes g = r) :
    Calls Try.prog 58 #[.agg (gmCells g A)] w fun e w' => e = .returned (.bool r) ∧ Below w.heap.size w w' := by
  have R : Hid (decide (1 ≤ g.names.length ∧ g.names.length ≤ 40 ∧ g.terms.length ≤ 40 ∧ 1 ≤ g.rules.length ∧ g.rules.length ≤ 60) = r) := hr
  clear hr
  unfold gmCells
  go_enter Try.func58, Try.ntmps58
  go_wp2
  all_goals go_ret
  all_goals refine ⟨ret_bool ?_, (Below.refl _ w).alloc (Nat.le_refl _) _⟩
  all_goals (rw [← R.out, Bool.eq_iff_iff]; simp <;> omega)

set_option maxHeartbeats 1600000 in
theorem namesFit_is (r : Bool) (ss : List ByteArray) (hl : ss.length ≤ 2000) (ht : ∀ s ∈ ss, s.size ≤ maxLen) (ao : Option Addr) (c : Nat) (hc : ss.length ≤ c ∧ c ≤ maxLen) (w : World) (h : StrsAt w.heap.size w ao ss) (hr : Gr.each (fun s => Lx.isName s.data.toList) ss = r) :
    Calls Try.prog 59 #[.slice ao ss.length c, .func (.func 60) #[] #[]] w fun e w' => e = .returned (.bool r) ∧ w' = w := by
  have HS : Hid (StrsAt w.heap.size w ao ss) := h
  have HT : Hid _ := ht
  have hc1 := hc.1
  have hc2 : c ≤ 9223372036854775807 := hc.2
  have HA : Hid ((∀ k (hk : k < ss.length), (Lx.isName ss[k].data.toList && !Gr.has ss[k] (ss.take k)) = true) → r = true) := fun hh => by rw [← hr, Gr.each_all hh]
  have HN : Hid (∀ k (hk : k < ss.length), (Lx.isName ss[k].data.toList && !Gr.has ss[k] (ss.take k)) = false → r = false) := fun k hk hh => by rw [← hr, Gr.each_fail k hk hh]
  clear h hr ht hc
  go_enter Try.func59, Try.ntmps59
  go_wp2_with fail
  go_loop [9] (fun i => ∃ (q : Nat), q ≤ ss.length ∧ i = .int .i64 q ∧ Hid (∀ k (hk : k < ss.length), k < q → (Lx.isName ss[k].data.toList && !Gr.has ss[k] (ss.take k)) = true)) (fun i => ss.length - (intOf i).toNat)
  case atStart => exact ⟨0, Nat.zero_le _, rfl, fun k hk h => by omega⟩
  case round =>
    obtain ⟨q, hq, rfl, hE⟩ := hrel
    by_cases hlt : q < ss.length
    · obtain ⟨b, o, rfl, hb, _, c0⟩ := HS.out.get q hlt
      have htq := HT.out ss[q] (List.getElem_mem hlt)
      have HQ : Hid ((ss.take q).length = q) := by show _ = _; rw [List.length_take]; omega
      have HST : Hid (StrsAt w.heap.size w (some ⟨b, o, none⟩) (ss.take q)) := HS.out.take q
      have HNq : Hid _ := HN.out q hlt
      have HEq : Hid ((Lx.isName ss[q].data.toList && !Gr.has ss[q] (ss.take q)) = true → ∀ k (hk : k < ss.length), k < q + 1 → (Lx.isName ss[k].data.toList && !Gr.has ss[k] (ss.take k)) = true) := fun h k hk hk2 => by
        by_cases e : k = q
        · subst e; exact h
        · exact hE.out k hk (by omega)
      generalize ss[q] = x at *
      cases hp : Lx.isName x.data.toList
      · have R : Hid (r = false) := HNq.out (by rw [hp]; rfl)
        clear HNq HEq hE HN HA
        go_wp2_with (first | (go_at_call 60; refine (isName_any _ _ htq).mono ?_; rintro e w1 ⟨rfl, rfl⟩; rw [hp]))
        go_ret
        exact ⟨ret_bool R.out.symm, rfl⟩
      · cases hin : Gr.has x (ss.take q)
        · have R : Hid _ := HEq.out (by rw [hp, hin]; rfl)
          have HCT : Hid (∀ _ : Unit, _) := fun _ => containsStr_is false (ss.take q) (by rw [HQ.out]; omega) (some ⟨b, o, none⟩) c x w HST.out hin
          rw [HQ.out] at HCT
          clear HNq HEq hE HN HA
          go_wp2_with (first | (go_at_call 60; refine (isName_any _ _ htq).mono ?_; rintro e w1 ⟨rfl, rfl⟩; rw [hp]) | (go_at_call 82; refine (HCT.out ()).mono ?_; rintro e w1 ⟨rfl, rfl⟩))
          go_round
          case rel => exact ⟨q + 1, by omega, by go_num, R⟩
          case measure => simp [intOf]; omega
        · have R : Hid (r = false) := HNq.out (by rw [hp, hin]; rfl)
          have HCT : Hid (∀ _ : Unit, _) := fun _ => containsStr_is true (ss.take q) (by rw [HQ.out]; omega) (some ⟨b, o, none⟩) c x w HST.out hin
          rw [HQ.out] at HCT
          clear HNq HEq hE HN HA
          go_wp2_with (first | (go_at_call 60; refine (isName_any _ _ htq).mono ?_; rintro e w1 ⟨rfl, rfl⟩; rw [hp]) | (go_at_call 82; refine (HCT.out ()).mono ?_; rintro e w1 ⟨rfl, rfl⟩))
          go_ret
          exact ⟨ret_bool R.out.symm, rfl⟩
    · have R : Hid (r = true) := HA.out (fun k hk => hE.out k hk (by omega))
      clear hE HA HN
      go_wp2_with fail
      go_ret
      exact ⟨ret_bool R.out.symm, rfl⟩

set_option maxHeartbeats 1600000 in
theorem termsFit_is (r : Bool) (ss : List ByteArray) (hl : ss.length ≤ 2000) (ht : ∀ s ∈ ss, s.size ≤ maxLen) (ao : Option Addr) (c : Nat) (hc : ss.length ≤ c ∧ c ≤ maxLen) (w : World) (h : StrsAt w.heap.size w ao ss) (hr : Gr.each (fun s => Lx.isTerm s.data.toList) ss = r) :
    Calls Try.prog 59 #[.slice ao ss.length c, .func (.func 61) #[] #[]] w fun e w' => e = .returned (.bool r) ∧ w' = w := by
  have HS : Hid (StrsAt w.heap.size w ao ss) := h
  have HT : Hid _ := ht
  have hc1 := hc.1
  have hc2 : c ≤ 9223372036854775807 := hc.2
  have HA : Hid ((∀ k (hk : k < ss.length), (Lx.isTerm ss[k].data.toList && !Gr.has ss[k] (ss.take k)) = true) → r = true) := fun hh => by rw [← hr, Gr.each_all hh]
  have HN : Hid (∀ k (hk : k < ss.length), (Lx.isTerm ss[k].data.toList && !Gr.has ss[k] (ss.take k)) = false → r = false) := fun k hk hh => by rw [← hr, Gr.each_fail k hk hh]
  clear h hr ht hc
  go_enter Try.func59, Try.ntmps59
  go_wp2_with fail
  go_loop [9] (fun i => ∃ (q : Nat), q ≤ ss.length ∧ i = .int .i64 q ∧ Hid (∀ k (hk : k < ss.length), k < q → (Lx.isTerm ss[k].data.toList && !Gr.has ss[k] (ss.take k)) = true)) (fun i => ss.length - (intOf i).toNat)
  case atStart => exact ⟨0, Nat.zero_le _, rfl, fun k hk h => by omega⟩
  case round =>
    obtain ⟨q, hq, rfl, hE⟩ := hrel
    by_cases hlt : q < ss.length
    · obtain ⟨b, o, rfl, hb, _, c0⟩ := HS.out.get q hlt
      have htq := HT.out ss[q] (List.getElem_mem hlt)
      have HQ : Hid ((ss.take q).length = q) := by show _ = _; rw [List.length_take]; omega
      have HST : Hid (StrsAt w.heap.size w (some ⟨b, o, none⟩) (ss.take q)) := HS.out.take q
      have HNq : Hid _ := HN.out q hlt
      have HEq : Hid ((Lx.isTerm ss[q].data.toList && !Gr.has ss[q] (ss.take q)) = true → ∀ k (hk : k < ss.length), k < q + 1 → (Lx.isTerm ss[k].data.toList && !Gr.has ss[k] (ss.take k)) = true) := fun h k hk hk2 => by
        by_cases e : k = q
        · subst e; exact h
        · exact hE.out k hk (by omega)
      generalize ss[q] = x at *
      cases hp : Lx.isTerm x.data.toList
      · have R : Hid (r = false) := HNq.out (by rw [hp]; rfl)
        clear HNq HEq hE HN HA
        go_wp2_with (first | (go_at_call 61; refine (isTerm_any _ _ htq).mono ?_; rintro e w1 ⟨rfl, rfl⟩; rw [hp]))
        go_ret
        exact ⟨ret_bool R.out.symm, rfl⟩
      · cases hin : Gr.has x (ss.take q)
        · have R : Hid _ := HEq.out (by rw [hp, hin]; rfl)
          have HCT : Hid (∀ _ : Unit, _) := fun _ => containsStr_is false (ss.take q) (by rw [HQ.out]; omega) (some ⟨b, o, none⟩) c x w HST.out hin
          rw [HQ.out] at HCT
          clear HNq HEq hE HN HA
          go_wp2_with (first | (go_at_call 61; refine (isTerm_any _ _ htq).mono ?_; rintro e w1 ⟨rfl, rfl⟩; rw [hp]) | (go_at_call 82; refine (HCT.out ()).mono ?_; rintro e w1 ⟨rfl, rfl⟩))
          go_round
          case rel => exact ⟨q + 1, by omega, by go_num, R⟩
          case measure => simp [intOf]; omega
        · have R : Hid (r = false) := HNq.out (by rw [hp, hin]; rfl)
          have HCT : Hid (∀ _ : Unit, _) := fun _ => containsStr_is true (ss.take q) (by rw [HQ.out]; omega) (some ⟨b, o, none⟩) c x w HST.out hin
          rw [HQ.out] at HCT
          clear HNq HEq hE HN HA
          go_wp2_with (first | (go_at_call 61; refine (isTerm_any _ _ htq).mono ?_; rintro e w1 ⟨rfl, rfl⟩; rw [hp]) | (go_at_call 82; refine (HCT.out ()).mono ?_; rintro e w1 ⟨rfl, rfl⟩))
          go_ret
          exact ⟨ret_bool R.out.symm, rfl⟩
    · have R : Hid (r = true) := HA.out (fun k hk => hE.out k hk (by omega))
      clear hE HA HN
      go_wp2_with fail
      go_ret
      exact ⟨ret_bool R.out.symm, rfl⟩

end Go.Proofs.Ytdocbgfpnaiijaa

namespace Go.Proofs.Ytdocbgfpnaiijaa
open Go.RowKit

theorem all_drop_step {p : Int → Bool} (xs : List Int) (k : Nat) (h : k < xs.length) : (xs.drop k).all p = (p xs[k] && (xs.drop (k + 1)).all p) := by
  rw [List.drop_eq_getElem_cons h, List.all_cons]

set_option maxHeartbeats 1600000 in
theorem ruleFits_is (r : Bool) (g : Gr.Gm) (A : GA) (ru : Gr.Rl) (ro : Option Addr) (rc : Nat) (w : World) (h1 : g.terms.length ≤ 4000 ∧ g.names.length ≤ 4000) (hm : ru.2.length ≤ maxLen) (h : IntsAt w.heap.size w ro ru.2) (hr : Gr.fits g ru = r) :
    Calls Try.prog 85 #[.agg (gmCells g A), .agg #[.int .i64 ru.1, .slice ro ru.2.length rc]] w fun e w' => e = .returned (.bool r) ∧ Below w.heap.size w w' := by
  obtain ⟨l, xs⟩ := ru
  simp only at hm h ⊢
  have hm' : xs.length ≤ 9223372036854775807 := hm
  have HR : Hid ((Gr.isN g l && decide (xs.length ≤ 8) && xs.all (fun s => Gr.isT g s || Gr.isN g s)) = r) := hr
  have HX : Hid (IntsAt w.heap.size w ro xs) := h
  have HN : Hid (∀ (b : Bool) (s : Int) (W : World), Gr.isN g s = b → Calls Try.prog 104 #[.agg (gmCells g A), .int .i64 s] W fun e w' => e = .returned (.bool b) ∧ Below W.heap.size W w') := fun b s W hb => nonterm_is b g A s W h1 hb
  have HT : Hid (∀ (b : Bool) (s : Int) (W : World), Gr.isT g s = b → Calls Try.prog 87 #[.agg (gmCells g A), .int .i64 s] W fun e w' => e = .returned (.bool b) ∧ Below W.heap.size W w') := fun b s W hb => term_is b g A s W hb
  clear hr h hm
  unfold gmCells at *
  have hb3 : Hid (Below w.heap.size w ((w.alloc (Obj.cells #[.slice A.ta g.terms.length A.tc, .slice A.na g.names.length A.nc, .slice A.ra g.rules.length A.rc] 25)).alloc (Obj.cells #[.int .i64 l, .slice ro xs.length rc] 31))) := ((Below.refl _ w).alloc (Nat.le_refl _) _).alloc (by simp) _
  cases hn : Gr.isN g l
  · have R : Hid (r = false) := by show _ = _; rw [← HR.out, hn]; rfl
    have HC : Hid (∀ (W : World), _) := fun W => HN.out _ l W hn
    clear HR HT HN hn
    go_enter Try.func85, Try.ntmps85
    go_wp2_with (first | (go_at_call 104; refine (HC.out _).mono ?_; rintro e w1 ⟨rfl, hb1⟩))
    go_ret
    exact ⟨ret_bool R.out.symm, hb3.out.trans (hb1.mono hb3.out.size)⟩
  · have HC : Hid (∀ (W : World), _) := fun W => HN.out _ l W hn
    have b0 : ((w.alloc (Obj.cells #[.slice A.ta g.terms.length A.tc, .slice A.na g.names.length A.nc, .slice A.ra g.rules.length A.rc] 25)).alloc (Obj.cells #[.int .i64 l, .slice ro xs.length rc] 31)).heap[w.heap.size]? = some (.cells #[.slice A.ta g.terms.length A.tc, .slice A.na g.names.length A.nc, .slice A.ra g.rules.length A.rc] 25 (0, 0)) := by
      rw [Below.heap_alloc _ _ _ (by simp)]; exact heap_alloc_new w _
    have b1 : ((w.alloc (Obj.cells #[.slice A.ta g.terms.length A.tc, .slice A.na g.names.length A.nc, .slice A.ra g.rules.length A.rc] 25)).alloc (Obj.cells #[.int .i64 l, .slice ro xs.length rc] 31)).heap[w.heap.size + 1]? = some (.cells #[.int .i64 l, .slice ro xs.length rc] 31 (0, 0)) := by
      have := heap_alloc_new (w.alloc (Obj.cells #[.slice A.ta g.terms.length A.tc, .slice A.na g.names.length A.nc, .slice A.ra g.rules.length A.rc] 25)) (Obj.cells #[.int .i64 l, .slice ro xs.length rc] 31)
      simpa using this
    have B0 : Hid _ := b0
    have B1 : Hid _ := b1
    clear b0 b1
    by_cases h8 : xs.length ≤ 8
    · have R : Hid (xs.all (fun s => Gr.isT g s || Gr.isN g s) = r) := by show _ = _; rw [← HR.out, hn]; simp [h8]
      clear HR hn
      go_enter Try.func85, Try.ntmps85
      go_wp2_with fail
      refine (HC.out _).mono ?_
      rintro e w1 ⟨rfl, hb1⟩
      have hW : Hid (((w.alloc (Obj.cells #[.slice A.ta g.terms.length A.tc, .slice A.na g.names.length A.nc, .slice A.ra g.rules.length A.rc] 25)).alloc (Obj.cells #[.int .i64 l, .slice ro xs.length rc] 31)).heap.size = w.heap.size + 2) := by show _ = _; simp
      generalize ((w.alloc (Obj.cells #[.slice A.ta g.terms.length A.tc, .slice A.na g.names.length A.nc, .slice A.ra g.rules.length A.rc] 25)).alloc (Obj.cells #[.int .i64 l, .slice ro xs.length rc] 31)) = W at *
      have hB1 : Hid (Below W.heap.size W w1) := hb1
      obtain ⟨r0, r1, _⟩ := cells_two_z ((hb1.block _ (by rw [hW.out]; omega)).trans B1.out)
      clear hb1
      go_wp2_with fail
      clear r0 r1
      go_loopw [21] (fun i wr => ∃ (q : Nat), q ≤ xs.length ∧ i = .int .i64 q ∧ Hid ((xs.drop q).all (fun s => Gr.isT g s || Gr.isN g s) = r) ∧ Hid (Below W.heap.size W wr)) (fun i _ => xs.length - (intOf i).toNat)
      case atStart => exact ⟨0, Nat.zero_le _, rfl, by show _ = _; rw [List.drop_zero]; exact R.out, hB1⟩
      case round =>
        obtain ⟨q, hq, rfl, hE, hb⟩ := hrel
        have hszz := hb.out.size
        rw [hW.out] at hszz
        by_cases hlt : q < xs.length
        · obtain ⟨bb, oo, rfl, hbb, _, c0⟩ := HX.out.get q hlt
          replace c0 := cell_later hb.out (cell_later hb3.out c0)
          have HD : Hid _ := all_drop_step (p := fun s => Gr.isT g s || Gr.isN g s) xs q hlt
          rw [HD.out] at hE
          generalize xs[q] = x at *
          obtain ⟨g0, g1, g2, _⟩ := cells_three_z ((hb.out.block _ (by rw [hW.out]; omega)).trans B0.out)
          have hz0 : w.heap.size < wr.heap.size := by omega
          clear HD
          cases ht : Gr.isT g x
          · cases hn2 : Gr.isN g x
            · have R2 : Hid (r = false) := by show _ = _; rw [← hE.out, ht, hn2]; rfl
              have HC2 : Hid (∀ (W : World), _) := fun W => HT.out _ x W ht
              have HC3 : Hid (∀ (W : World), _) := fun W => HN.out _ x W hn2
              clear hE ht hn2
              go_wp2_with fail
              refine (HC2.out _).mono ?_
              rintro e w2 ⟨rfl, hb2⟩
              replace g0 := cell_later hb2 g0
              replace g1 := cell_later hb2 g1
              replace g2 := cell_later hb2 g2
              go_wp2_with fail
              refine (HC3.out _).mono ?_
              rintro e w4 ⟨rfl, hb4⟩
              go_wp2_with fail
              go_ret
              exact ⟨ret_bool R2.out.symm, ((hb3.out.trans (hb.out.mono hb3.out.size)).trans (hb2.mono (Nat.le_of_lt hz0))).trans (hb4.mono (by have := hb2.size; omega))⟩
            · have R2 : Hid ((xs.drop (q + 1)).all (fun s => Gr.isT g s || Gr.isN g s) = r) := by show _ = _; rw [← hE.out, ht, hn2]; rfl
              have HC2 : Hid (∀ (W : World), _) := fun W => HT.out _ x W ht
              have HC3 : Hid (∀ (W : World), _) := fun W => HN.out _ x W hn2
              clear hE ht hn2
              go_wp2_with fail
              refine (HC2.out _).mono ?_
              rintro e w2 ⟨rfl, hb2⟩
              replace g0 := cell_later hb2 g0
              replace g1 := cell_later hb2 g1
              replace g2 := cell_later hb2 g2
              go_wp2_with fail
              refine (HC3.out _).mono ?_
              rintro e w4 ⟨rfl, hb4⟩
              have hbf : Hid (Below W.heap.size W w4) := (hb.out.trans (hb2.mono hb.out.size)).trans (hb4.mono (by have := hb2.size; have := hb.out.size; omega))
              clear g0 g1 g2 hb4 hb2
              go_wp2_with fail
              go_roundw
              case rel => exact ⟨q + 1, by omega, by go_num, R2, hbf⟩
              case measure => simp [intOf]; omega
          · have R2 : Hid ((xs.drop (q + 1)).all (fun s => Gr.isT g s || Gr.isN g s) = r) := by show _ = _; rw [← hE.out, ht]; rfl
            have HC2 : Hid (∀ (W : World), _) := fun W => HT.out _ x W ht
            clear hE ht
            go_wp2_with fail
            refine (HC2.out _).mono ?_
            rintro e w2 ⟨rfl, hb2⟩
            have hbf : Hid (Below W.heap.size W w2) := hb.out.trans (hb2.mono hb.out.size)
            clear g0 g1 g2 hb2
            go_wp2_with fail
            go_roundw
            case rel => exact ⟨q + 1, by omega, by go_num, R2, hbf⟩
            case measure => simp [intOf]; omega
        · have R2 : Hid (r = true) := by show _ = _; rw [← hE.out, List.drop_of_length_le (by omega)]; rfl
          clear hE
          go_wp2_with fail
          go_ret
          exact ⟨ret_bool R2.out.symm, hb3.out.trans (hb.out.mono hb3.out.size)⟩
    · have R : Hid (r = false) := by show _ = _; rw [← HR.out, hn]; simp [h8]
      have h8' : (8 : Int) < (xs.length : Int) := by omega
      clear HR hn h8
      go_enter Try.func85, Try.ntmps85
      go_wp2_with fail
      refine (HC.out _).mono ?_
      rintro e w1 ⟨rfl, hb1⟩
      obtain ⟨r0, r1, _⟩ := cells_two_z ((hb1.block _ (by simp)).trans B1.out)
      go_wp2_with fail
      go_ret
      exact ⟨ret_bool R.out.symm, hb3.out.trans (hb1.mono hb3.out.size)⟩
end Go.Proofs.Ytdocbgfpnaiijaa
