/-
  The laws of layer 2: whether tokens are fair.
-/
import Derived.Test.YtnbniaijholimaaReadTok
namespace Go.Proofs.Ytnbniaijholimaa
open Go.RowKit

/-- not too many, nor too long -/
def fair (ts : List Rd.Tk) : Bool := ts.all (fun t => decide (t.text.size ≤ 500)) && decide (ts.length ≤ 700)

theorem fair_text {ts : List Rd.Tk} (h : fair ts = true) : ∀ t ∈ ts, t.text.size ≤ 281474976710656 := by
  intro t ht
  simp only [fair, Bool.and_eq_true, List.all_eq_true, decide_eq_true_eq] at h
  have := h.1 t ht
  omega
theorem fair_len {ts : List Rd.Tk} (h : fair ts = true) : ts.length ≤ 700 := by
  simp only [fair, Bool.and_eq_true, decide_eq_true_eq] at h; exact h.2

set_option maxHeartbeats 800000 in
theorem fair_is (r : Bool) (ao : Option Addr) (c : Nat) (ts : List Rd.Tk) (w : World) (hl : ts.length ≤ maxLen) (hm : ∀ t ∈ ts, t.text.size ≤ maxLen) (h : TksAt w.heap.size w ao ts) (hr : fair ts = r) :
    Calls Try.prog 9 #[.slice ao ts.length c] w fun e w' => e = .returned (.bool r) ∧ w = w' := by
  unfold maxLen at hl
  have HT : Hid (TksAt w.heap.size w ao ts) := h
  have HM : Hid _ := hm
  have HF : Hid (ts.all (fun t => decide (t.text.size ≤ 500)) = (ts.drop 0).all (fun t => decide (t.text.size ≤ 500))) := by show _ = _; rw [List.drop_zero]
  have HR : Hid ((ts.all (fun t => decide (t.text.size ≤ 500)) && decide (ts.length ≤ 700)) = r) := hr
  clear h hr hm
  go_enter Try.func9, Try.ntmps9
  go_wp2_with fail
  go_loop [3] (fun i => ∃ k : Nat, k ≤ ts.length ∧ i = .int .i64 k ∧ Hid (ts.all (fun t => decide (t.text.size ≤ 500)) = (ts.drop k).all (fun t => decide (t.text.size ≤ 500)))) (fun i => ts.length - (intOf i).toNat)
  case atStart => exact ⟨0, Nat.zero_le _, rfl, HF⟩
  case round =>
    obtain ⟨k, hk, rfl, hE⟩ := hrel
    clear HF
    by_cases hlt : k < ts.length
    · obtain ⟨b, o, rfl, hb1, hb2, a0, a1, a2⟩ := HT.out k hlt
      have HD : Hid (ts.drop k = ts[k] :: ts.drop (k + 1)) := List.drop_eq_getElem_cons hlt
      have hms := HM.out ts[k] (List.getElem_mem hlt)
      unfold maxLen at hms
      generalize ts[k] = y at *
      obtain ⟨yk, yx, yp⟩ := y
      simp only at a0 a1 a2 hms
      by_cases h5 : yx.size ≤ 500
      · have R : Hid (ts.all (fun t => decide (t.text.size ≤ 500)) = (ts.drop (k + 1)).all (fun t => decide (t.text.size ≤ 500))) := by
          show _ = _; rw [hE.out, HD.out, List.all_cons]; simp [h5]
        clear hE HD
        go_wp2_with fail
        go_round
        case rel => exact ⟨k + 1, by omega, by go_num, R⟩
        case measure => simp [intOf]; omega
      · have R : Hid (r = false) := by
          show _ = _; rw [← HR.out, hE.out, HD.out, List.all_cons]; simp [h5]
        have h5' : (500 : Int) < (yx.size : Int) := by omega
        clear hE HD h5
        go_wp2_with fail
        go_ret
        exact ⟨ret_bool R.out.symm, rfl⟩
    · have R : Hid (decide ((ts.length : Int) ≤ 700) = r) := by
        show _ = _
        have := HR.out
        rw [hE.out, List.drop_of_length_le (by omega)] at this
        simp only [List.all_nil, Bool.true_and] at this
        rw [← this, decide_eq_decide]; omega
      clear hE HR
      go_wp2_with fail
      go_ret
      exact ⟨ret_bool R.out, rfl⟩
end Go.Proofs.Ytnbniaijholimaa
