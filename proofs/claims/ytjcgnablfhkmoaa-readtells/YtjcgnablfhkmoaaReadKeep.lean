/-
  The laws of layer 2: whether tokens are fair; whether tokens, alternatives are alike; wakes.
-/
import Derived.Test.YtjcgnablfhkmoaaReadAlts
namespace Go.Proofs.Ytjcgnablfhkmoaa
open Go.RowKit

/-- not too many, nor too long -/
def fair (ts : List Rd.Tk) : Bool := ts.all (fun t => decide (t.text.size ≤ 500)) && decide (ts.length ≤ 700)

theorem fair_text {ts : List Rd.Tk} (h : fair ts = true) : ∀ t ∈ ts, t.text.size ≤ 281474976710656 := by
  intro t ht
  simp only [fair, Bool.and_eq_true, List.all_eq_true, decide_eq_true_eq] at h
  have := h.1 t ht
  omega
theorem fair_len {ts : List Rd.Tk} (h : fair ts = true) : ts.length ≤ 700 := by
  simp only [fair, Bool.and_eq_true, decide_eq_true_eq] at h; exact h.2

set_option maxHeartbeats 800000 in
theorem fair_is (r : Bool) (ao : Option Addr) (c : Nat) (ts : List Rd.Tk) (w : World) (hl : ts.length ≤ maxLen) (hm : ∀ t ∈ ts, t.text.size ≤ maxLen) (h : TksAt w.heap.size w ao ts) (hr : fair ts = r) :
    Calls Try.prog 9 #[.slice ao ts.length c] w fun e w' => e = .returned (.bool r) ∧ w = w' := by
  unfold maxLen at hl
  have HT : Hid (TksAt w.heap.size w ao ts) := h
  have HM : Hid _ := hm
  have HF : Hid (ts.all (fun t => decide (t.text.size ≤ 500)) = (ts.drop 0).all (fun t => decide (t.text.size ≤ 500))) := by show _ = _; rw [List.drop_zero]
  have HR : Hid ((ts.all (fun t => decide (t.text.size ≤ 500)) && decide (ts.length ≤ 700)) = r) := hr
  clear h hr hm
  go_enter Try.func9, Try.ntmps9
  go_wp2_with fail
  go_loop [3] (fun i => ∃ k : Nat, k ≤ ts.length ∧ i = .int .i64 k ∧ Hid (ts.all (fun t => decide (t.text.size ≤ 500)) = (ts.drop k).all (fun t => decide (t.text.size ≤ 500)))) (fun i => ts.length - (intOf i).toNat)
  case atStart => exact ⟨0, Nat.zero_le _, rfl, HF⟩
  case round =>
    obtain ⟨k, hk, rfl, hE⟩ := hrel
    clear HF
    by_cases hlt : k < ts.length
    · obtain ⟨b, o, rfl, hb1, hb2, a0, a1, a2⟩ := HT.out k hlt
      have HD : Hid (ts.drop k = ts[k] :: ts.drop (k + 1)) := List.drop_eq_getElem_cons hlt
      have hms := HM.out ts[k] (List.getElem_mem hlt)
      unfold maxLen at hms
      generalize ts[k] = y at *
      obtain ⟨yk, yx, yp⟩ := y
      simp only at a0 a1 a2 hms
      by_cases h5 : yx.size ≤ 500
      · have R : Hid (ts.all (fun t => decide (t.text.size ≤ 500)) = (ts.drop (k + 1)).all (fun t => decide (t.text.size ≤ 500))) := by
          show _ = _; rw [hE.out, HD.out, List.all_cons]; simp [h5]
        clear hE HD
        go_wp2_with fail
        go_round
        case rel => exact ⟨k + 1, by omega, by go_num, R⟩
        case measure => simp [intOf]; omega
      · have R : Hid (r = false) := by
          show _ = _; rw [← HR.out, hE.out, HD.out, List.all_cons]; simp [h5]
        have h5' : (500 : Int) < (yx.size : Int) := by omega
        clear hE HD h5
        go_wp2_with fail
        go_ret
        exact ⟨ret_bool R.out.symm, rfl⟩
    · have R : Hid (decide ((ts.length : Int) ≤ 700) = r) := by
        show _ = _
        have := HR.out
        rw [hE.out, List.drop_of_length_le (by omega)] at this
        simp only [List.all_nil, Bool.true_and] at this
        rw [← this, decide_eq_decide]; omega
      clear hE HR
      go_wp2_with fail
      go_ret
      exact ⟨ret_bool R.out, rfl⟩

set_option maxHeartbeats 800000 in
theorem keepTokens_same (ts : List Rd.Tk) (hl : ts.length ≤ 2000) (ao ao' : Option Addr) (c c' : Nat) (w : World) (h1 : TksAt w.heap.size w ao ts) (h2 : TksAt w.heap.size w ao' ts) :
    Calls Try.prog 14 #[.slice ao ts.length c, .slice ao' ts.length c'] w fun e w' => e = .returned (.bool true) ∧ ∃ n, w' = w.drewN n := by
  have RA : Hid _ := h1
  have RB : Hid _ := h2
  clear h1 h2
  have hne : ((ts.length : Int) != (ts.length : Int)) = false := by simp
  go_enter Try.func14, Try.ntmps14
  go_wp2_with fail
  go_loopw [5] (fun i wr => ∃ k : Nat, k ≤ ts.length ∧ i = .int .i64 k ∧ ∃ n, wr = w.drewN n) (fun i _ => ts.length - (intOf i).toNat)
  case atStart => exact ⟨0, Nat.zero_le _, rfl, 0, rfl⟩
  case round =>
    obtain ⟨k, hk, rfl, n, rfl⟩ := hrel
    by_cases hlt : k < ts.length
    · obtain ⟨g, o, rfl, _, _, a0, a1, a2⟩ := RA.out k hlt
      obtain ⟨g', o', rfl, _, _, b0, b1, b2⟩ := RB.out k hlt
      generalize ts[k] = x at *
      obtain ⟨kd, tx, ps⟩ := x
      simp only at a0 a1 a2 b0 b1 b2
      go_wp2_with fail
      go_quiet (fail)
      go_wp2_with fail
      go_roundw
      case rel => exact ⟨k + 1, by omega, by go_num, _, rfl⟩
      case measure => simp [intOf]; omega
    · go_wp2_with fail
      go_ret
      exact ⟨rfl, n, rfl⟩

theorem AlsAt.right {base : Nat} {w : World} {ao : Option Addr} {n c : Nat} {xs : List Rd.Al} (h : AlsAt base w (.slice ao n c) xs) : ∀ i (hi : i < xs.length), ∃ g ro rc, ao = some ⟨g, 0, none⟩ ∧ g < w.heap.size ∧
      w.cell? ⟨g, i * 4, none⟩ = some (.int .i64 xs[i].1.kind) ∧ w.cell? ⟨g, i * 4 + 1, none⟩ = some (.string xs[i].1.text) ∧ w.cell? ⟨g, i * 4 + 2, none⟩ = some (.int .i64 xs[i].1.pos) ∧
      w.cell? ⟨g, i * 4 + 3, none⟩ = some (.slice ro xs[i].2.length rc) ∧ TksAt w.heap.size w ro xs[i].2 := by
  intro i hi
  obtain ⟨ao', c', hv, _, hr⟩ := h.read
  cases hv
  obtain ⟨g, ro, rc, h1, _, h2, h3⟩ := hr i hi
  exact ⟨g, ro, rc, h1, h2, h3⟩

theorem TksAt.drewN {N : Nat} {w : World} {ao : Option Addr} {ts : List Rd.Tk} (h : TksAt N w ao ts) (n : Nat) : TksAt N (w.drewN n) ao ts := h.later (below_drewN (Below.refl _ w) n)

set_option maxHeartbeats 800000 in
theorem keepAlts_same (xs : List Rd.Al) (hl : xs.length ≤ 2000) (hl2 : ∀ x ∈ xs, x.2.length ≤ 2000) (ao ao' : Option Addr) (c c' base base' : Nat) (w : World) (h1 : AlsAt base w (.slice ao xs.length c) xs) (h2 : AlsAt base' w (.slice ao' xs.length c') xs) :
    Calls Try.prog 13 #[.slice ao xs.length c, .slice ao' xs.length c'] w fun e w' => e = .returned (.bool true) ∧ ∃ n, w' = w.drewN n := by
  have RA : Hid _ := h1.right
  have RB : Hid _ := h2.right
  have HL : Hid _ := hl2
  clear h1 h2 hl2
  have hne : ((xs.length : Int) != (xs.length : Int)) = false := by simp
  go_enter Try.func13, Try.ntmps13
  go_wp2_with fail
  go_loopw [5] (fun i wr => ∃ k : Nat, k ≤ xs.length ∧ i = .int .i64 k ∧ Hid (∃ n, wr = w.drewN n)) (fun i _ => xs.length - (intOf i).toNat)
  case atStart => exact ⟨0, Nat.zero_le _, rfl, ⟨0, rfl⟩⟩
  case round =>
    obtain ⟨k, hk, rfl, hw⟩ := hrel
    have hbr : Hid (Below w.heap.size w wr) := by obtain ⟨n, rfl⟩ := hw.out; exact below_drewN (Below.refl _ w) n
    by_cases hlt : k < xs.length
    · obtain ⟨g, ro, rc, rfl, _, a0, a1, a2, a3, at4⟩ := RA.out k hlt
      obtain ⟨g', ro', rc', rfl, _, b0, b1, b2, b3, bt4⟩ := RB.out k hlt
      have h8 := HL.out xs[k] (List.getElem_mem hlt)
      generalize xs[k] = x at *
      obtain ⟨⟨kd, tx, ps⟩, r⟩ := x
      simp only at a0 a1 a2 a3 at4 b0 b1 b2 b3 bt4 h8
      have A4 : Hid (TksAt wr.heap.size wr ro r) := (at4.later hbr.out).size
      have B4 : Hid (TksAt wr.heap.size wr ro' r) := (bt4.later hbr.out).size
      replace a0 := cell_later hbr.out a0
      replace a1 := cell_later hbr.out a1
      replace a2 := cell_later hbr.out a2
      replace a3 := cell_later hbr.out a3
      replace b0 := cell_later hbr.out b0
      replace b1 := cell_later hbr.out b1
      replace b2 := cell_later hbr.out b2
      replace b3 := cell_later hbr.out b3
      clear at4 bt4
      go_wp2_with fail
      go_quiet (first | (go_at_call 14; exact Calls.quiet_of (keepTokens_same _ h8 _ _ _ _ _ (A4.out.drewN _) (B4.out.drewN _))))
      go_wp2_with fail
      go_roundw
      case rel => exact ⟨k + 1, by omega, by go_num, by obtain ⟨n, rfl⟩ := hw.out; exact ⟨n + nq, World.drewN_drewN _ _ _⟩⟩
      case measure => simp [intOf]; omega
    · go_wp2_with fail
      go_ret
      exact ⟨rfl, hw.out⟩
end Go.Proofs.Ytjcgnablfhkmoaa
