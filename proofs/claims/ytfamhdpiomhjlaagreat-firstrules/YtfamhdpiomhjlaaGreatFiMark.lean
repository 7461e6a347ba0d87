/-
  The laws of layer 8: their own marking and comparing (mark, same).
-/
import Derived.Test.YtfamhdpiomhjlaaGreatFiLaw
import Derived.Test.YtfamhdpiomhjlaaGreatSchRef
import Derived.Test.YtfamhdpiomhjlaaGreatFiSets
namespace Go.Proofs.YtfamhdpiomhjlaaGreat
open Go.RowKit Go.Conc

set_option maxHeartbeats 1600000 in
theorem mark_any (bs : List Bool) (n H : Nat) (xs : List Int) (ao : Option Addr) (c : Nat) (w : World) (hn : bs.length = n) (hb : w.heap[H]? = some (.cells (bs.map Value.bool).toArray 4 (0, 0))) (hx : IntsAt w.heap.size w ao xs) (hin : ∀ x ∈ xs, 0 ≤ x ∧ x < n) (h4 : xs.length ≤ 4000) :
    Calls Tryz.prog 12 #[.slice (some ⟨H, 0, none⟩) n n, .slice ao xs.length c] w fun e w' => e = .returned (.bool true) ∧ Hid (w'.heap[H]? = some (.cells ((xs.foldl Nl.tell bs).map Value.bool).toArray 4 (0, 0))) ∧ Hid (ButL [H] w w') := by
  have HIN : Hid _ := hin
  have KX : Hid (∀ W : World, ButL [H] w W → IntsAt w.heap.size W ao xs) := fun W hW => IntsAt.keep hx hW.size fun k o y hk hc => hW.block k hk fun e => by
    rw [List.mem_singleton] at e
    rw [e] at hc
    have := cell_in hb hc
    simp at this
  have P0 : Hid (w.heap[H]? = some (.cells (((xs.take 0).foldl Nl.tell bs).map Value.bool).toArray 4 (0, 0))) := hb
  clear hin hb hx
  go_enter Tryz.func12, Tryz.ntmps12
  go_wp2_with fail
  go_loopw [5] (fun i wr => ∃ k : Nat, k ≤ xs.length ∧ i = .int .i64 k ∧ Hid (wr.heap[H]? = some (.cells (((xs.take k).foldl Nl.tell bs).map Value.bool).toArray 4 (0, 0))) ∧ Hid (ButL [H] w wr)) (fun i _ => xs.length - (intOf i).toNat)
  case atStart => exact ⟨0, Nat.zero_le _, rfl, P0, ButL.refl _ _⟩
  case round =>
    obtain ⟨k, hk, rfl, hM, hbt⟩ := hrel
    clear P0
    by_cases hkl : k < xs.length
    · have hki : (k : Int) < (xs.length : Int) := by omega
      obtain ⟨xb, xo, rfl, _, _, x0⟩ := IntsAt.get (KX.out wr hbt.out) k hkl
      have hx := HIN.out _ (List.getElem_mem hkl)
      have ST : Hid _ := Fi.foldTell_step bs xs k hkl
      have hml : ((xs.take k).foldl Nl.tell bs).length = n := by rw [Fi.foldTell_len, hn]
      generalize xs[k] = x at *
      obtain ⟨m, rfl⟩ : ∃ m : Nat, x = m := ⟨x.toNat, by omega⟩
      have hmn : m < n := by omega
      have hmI : (m : Int) < (n : Int) := by omega
      have f0 : wr.frozen? ⟨H, m, none⟩ = false := by simp [World.frozen?, hM.out]
      have c0 : wr.cell? ⟨H, m, none⟩ = some (.bool (((xs.take k).foldl Nl.tell bs)[m]'(by omega))) := by
        have := bools_cell hM.out m (by omega)
        exact this.1
      have hHl := (Array.getElem?_eq_some_iff.1 hM.out).1
      have N1 : Hid ((wr.setCell ⟨H, m, none⟩ (.bool true)).heap[H]? = some (.cells (((xs.take (k + 1)).foldl Nl.tell bs).map Value.bool).toArray 4 (0, 0))) := by
        show _ = _
        rw [ST.out]
        have := bools_set hM.out m true
        simpa [Nl.tell] using this
      have N2 : Hid (ButL [H] w (wr.setCell ⟨H, m, none⟩ (.bool true))) := hbt.out.setCell (List.mem_cons_self ..) _ _
      clear hM hbt ST
      go_wp2_with fail
      go_roundw
      case rel => exact ⟨k + 1, by omega, by go_num, N1, N2⟩
      case measure => simp [intOf]; omega
    · obtain rfl : k = xs.length := by omega
      have hki : ¬ (xs.length : Int) < (xs.length : Int) := by omega
      rw [List.take_length] at hM
      go_wp2_with fail
      go_ret
      exact ⟨rfl, hM, hbt⟩

set_option maxHeartbeats 1600000 in
theorem same_any (bs : List Bool) (xs : List Int) (bo ao : Option Addr) (bc c : Nat) (w : World) (hb : BoolsAt w.heap.size w bo bs) (hx : IntsAt w.heap.size w ao xs) (he : Fi.rise bs = xs) (h4 : bs.length ≤ 4000) :
    Calls Tryz.prog 13 #[.slice bo bs.length bc, .slice ao xs.length c] w fun e w' => e = .returned (.bool true) ∧ w' = w := by
  subst he
  have HB : Hid _ := hb.get
  have HX : Hid _ := hx.get
  have hxl : (Fi.rise bs).length ≤ 4000 := Nat.le_trans (Fi.riseTo_len _ _) h4
  clear hb hx
  go_enter Tryz.func13, Tryz.ntmps13
  go_wp2_with fail
  go_loopw [5, 6] (fun a i wr => ∃ k : Nat, k ≤ bs.length ∧ a = .int .i64 ((Fi.riseTo bs k).length : Nat) ∧ i = .int .i64 k ∧ wr = w) (fun _ i _ => bs.length - (intOf i).toNat)
  case atStart => exact ⟨0, Nat.zero_le _, rfl, rfl, rfl⟩
  case round =>
    obtain ⟨k, hk, rfl, rfl, rfl⟩ := hrel
    by_cases hkl : k < bs.length
    · have hki : (k : Int) < (bs.length : Int) := by omega
      obtain ⟨b, o, rfl, _, _, c0⟩ := HB.out k hkl
      have ST := Fi.riseTo_succ bs k
      have hat : bs.getD k false = bs[k] := by simp [List.getD_eq_getElem?_getD, hkl]
      have hle := Fi.riseTo_len bs k
      have HAT : Hid (bs.getD k false = true → ∃ hl : (Fi.riseTo bs k).length < (Fi.rise bs).length, (Fi.rise bs)[(Fi.riseTo bs k).length] = (k : Int)) := fun h => Fi.rise_at hkl h
      rw [hat] at ST HAT
      clear hat
      generalize bs[k] = y at *
      cases y
      · have R : Hid ((Fi.riseTo bs (k + 1)).length = (Fi.riseTo bs k).length) := by show _ = _; rw [ST]; simp
        clear ST HAT
        go_wp2_with fail
        go_roundw
        case rel => exact ⟨k + 1, by omega, by rw [R.out], by go_num, trivial⟩
        case measure => simp [intOf]; omega
      · have R : Hid ((Fi.riseTo bs (k + 1)).length = (Fi.riseTo bs k).length + 1) := by show _ = _; rw [ST]; simp
        obtain ⟨hl, e⟩ := HAT.out rfl
        obtain ⟨xb, xo, rfl, _, _, x0⟩ := HX.out _ hl
        rw [e] at x0
        have hd : decide (((Fi.rise bs).length : Int) ≤ ((Fi.riseTo bs k).length : Int)) = false := decide_eq_false (by omega)
        have hne : ((k : Int) != (k : Int)) = false := by simp
        clear ST HAT e
        generalize (Fi.riseTo bs k).length = q at *
        generalize Fi.rise bs = rs at *
        go_wp2_with fail
        go_roundw
        case rel => exact ⟨k + 1, by omega, by rw [R.out]; go_num, by go_num, trivial⟩
        case measure => simp [intOf]; omega
    · obtain rfl : k = bs.length := by omega
      have hki : ¬ (bs.length : Int) < (bs.length : Int) := by omega
      have hle := Fi.riseTo_len bs bs.length
      have e : (Fi.riseTo bs bs.length).length = (Fi.rise bs).length := rfl
      rw [e]
      go_wp2_with fail
      go_ret
      exact ⟨ret_bool (by simp), rfl⟩
end Go.Proofs.YtfamhdpiomhjlaaGreat
