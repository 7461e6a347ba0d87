/-
  The document's own 'at', Name and 'has' of layer 3.
  The document's own 'has' of layer 3: is a rule among some?
-/
import Derived.Test.YtdocbgfpnaiijaaGrGood6
import Derived.Test.YtdocbgfpnaiijaaGrQuiet
import Derived.Deep.DeepCutAuto
namespace Go.Proofs.Ytdocbgfpnaiijaa
open Go.RowKit

set_option maxHeartbeats 800000 in
theorem refAt_any (ss : List ByteArray) (hl : ss.length ≤ 4000) (ao : Option Addr) (c : Nat) (x : ByteArray) (w : World) (h : StrsAt w.heap.size w ao ss) :
    Calls Try.prog 31 #[.slice ao ss.length c, .string x] w fun e w' => e = .returned (.int .i64 (Gr.pos x ss)) ∧ w' = w := by
  have HC : Hid _ := h.get
  clear h
  go_enter Try.func31, Try.ntmps31
  go_wp2
  go_loop [5] (fun i => ∃ q : Nat, q ≤ ss.length ∧ i = .int .i64 q ∧ Hid (Gr.pos x ss = if Gr.pos x (ss.drop q) = -1 then -1 else q + Gr.pos x (ss.drop q))) (fun i => ss.length - (intOf i).toNat)
  case atStart => exact ⟨0, Nat.zero_le _, rfl, by show _ = _; rw [List.drop_zero]; split <;> omega⟩
  case round =>
    obtain ⟨q, hq, rfl, hE⟩ := hrel
    by_cases hlt : q < ss.length
    · have HD : Hid (ss.drop q = ss[q] :: ss.drop (q + 1)) := List.drop_eq_getElem_cons hlt
      obtain ⟨b, o, rfl, hb, _, c0⟩ := HC.out q hlt
      have P := hE.out
      rw [HD.out] at P
      generalize ss[q] = y at *
      rw [Gr.pos] at P
      by_cases e : x = y
      · rw [if_pos e] at P
        have R : Hid (Gr.pos x ss = q) := by show _ = _; rw [P]; simp
        clear P HD hE HC
        subst e
        go_wp2
        go_ret
        exact ⟨ret_int R.out.symm, rfl⟩
      · rw [if_neg e] at P
        have hk := str_ne (fun h => e h.symm : ¬ y = x)
        have R : Hid (Gr.pos x ss = if Gr.pos x (ss.drop (q + 1)) = -1 then -1 else ((q + 1 : Nat) : Int) + Gr.pos x (ss.drop (q + 1))) := by
          show _ = _
          have := (Gr.pos_has x (ss.drop (q + 1))).1
          rw [P]
          generalize Gr.pos x (ss.drop (q + 1)) = y at this ⊢
          by_cases h : y = -1
          · subst h; simp
          · rw [if_neg h, if_neg h, if_neg (by omega)]; omega
        clear P HD hE
        go_wp2
        go_round
        case rel => exact ⟨q + 1, by omega, by go_num, R⟩
        case measure => simp [intOf]; omega
    · have R : Hid (Gr.pos x ss = -1) := by show _ = _; rw [hE.out, List.drop_of_length_le (by omega)]; simp [Gr.pos]
      clear hE
      go_wp2
      go_ret
      exact ⟨ret_int R.out.symm, rfl⟩

end Go.Proofs.Ytdocbgfpnaiijaa

namespace Go.Proofs.Ytdocbgfpnaiijaa
open Go.RowKit

theorem rl_parts (yl xl : Int) (yr xr : List Int) : decide (((yl, yr) : Gr.Rl) = (xl, xr)) = (decide (yl = xl) && decide (yr.length = xr.length) && decide (yr = xr)) := by
  rw [Bool.eq_iff_iff, Bool.and_eq_true, Bool.and_eq_true, decide_eq_true_eq, decide_eq_true_eq, decide_eq_true_eq, decide_eq_true_eq, Prod.mk.injEq]
  constructor
  · rintro ⟨h1, h2⟩; exact ⟨⟨h1, by rw [h2]⟩, h2⟩
  · rintro ⟨⟨h1, _⟩, h2⟩; exact ⟨h1, h2⟩

theorem drop_eq_step (yr xr : List Int) (j : Nat) (h1 : j < yr.length) (h2 : j < xr.length) : decide (yr.drop j = xr.drop j) = (decide (yr[j] = xr[j]) && decide (yr.drop (j + 1) = xr.drop (j + 1))) := by
  rw [List.drop_eq_getElem_cons h1, List.drop_eq_getElem_cons h2, Bool.eq_iff_iff, Bool.and_eq_true, decide_eq_true_eq, decide_eq_true_eq, decide_eq_true_eq, List.cons.injEq]

theorem has_drop_step {α : Type} [DecidableEq α] (x : α) (l : List α) (q : Nat) (h : q < l.length) : Gr.has x (l.drop q) = (decide (l[q] = x) || Gr.has x (l.drop (q + 1))) := by
  unfold Gr.has
  rw [List.drop_eq_getElem_cons h, Bool.eq_iff_iff, Bool.or_eq_true, decide_eq_true_eq, decide_eq_true_eq, decide_eq_true_eq, List.mem_cons]
  constructor
  · rintro (h | h)
    · exact .inl h.symm
    · exact .inr h
  · rintro (h | h)
    · exact .inl h.symm
    · exact .inr h

set_option maxRecDepth 100000 in
set_option maxHeartbeats 3200000 in
theorem refHas_is (r : Bool) (rs : List Gr.Rl) (hl : rs.length ≤ 4000) (ao : Option Addr) (c : Nat) (xl : Int) (xr : List Int) (xo : Option Addr) (xc : Nat) (w : World) (h : RlsAt w.heap.size w ao rs) (hx : IntsAt w.heap.size w xo xr) (hxl : xr.length ≤ 4000) (hrl : ∀ y ∈ rs, y.2.length ≤ maxLen) (hr : Gr.has (xl, xr) rs = r) :
    Calls Try.prog 33 #[.slice ao rs.length c, .agg #[.int .i64 xl, .slice xo xr.length xc]] w fun e w' => e = .returned (.bool r) ∧ Below w.heap.size w w' := by
  have HR : Hid (RlsAt w.heap.size w ao rs) := h
  have HX : Hid (IntsAt w.heap.size w xo xr) := hx
  have HM : Hid _ := hrl
  have R0 : Hid (Gr.has (xl, xr) rs = r) := hr
  have hbW : Hid (Below w.heap.size w (w.alloc (Obj.cells #[.int .i64 xl, .slice xo xr.length xc] 31))) := (Below.refl _ w).alloc (Nat.le_refl _) _
  have b0 : Hid ((w.alloc (Obj.cells #[.int .i64 xl, .slice xo xr.length xc] 31)).heap[w.heap.size]? = some (.cells #[.int .i64 xl, .slice xo xr.length xc] 31 (0, 0))) := heap_alloc_new w _
  clear h hx hr hrl
  go_enter Try.func33, Try.ntmps33
  go_wp2_with fail
  generalize (w.alloc (Obj.cells #[.int .i64 xl, .slice xo xr.length xc] 31)) = W at *
  obtain ⟨p0, p1, _, _⟩ := cells_two_z b0.out
  go_loopw [5, 6, 7] (fun i _ _ wr => ∃ (q n : Nat), q ≤ rs.length ∧ i = .int .i64 q ∧ wr = W.drewN n ∧ Hid (Gr.has (xl, xr) (rs.drop q) = r)) (fun i _ _ _ => rs.length - (intOf i).toNat)
  case atStart => exact ⟨0, 0, Nat.zero_le _, rfl, rfl, by show _ = _; rw [List.drop_zero]; exact R0.out⟩
  case round =>
    obtain ⟨q, n, hq, rfl, rfl, hE⟩ := hrel
    clear R0
    by_cases hlt : q < rs.length
    · have hqi : (q : Int) < (rs.length : Int) := by omega
      obtain ⟨b, o, ro, rc, rfl, hbb, _, y0, y1, yI, _⟩ := HR.out q hlt
      have hyl := HM.out _ (List.getElem_mem hlt)
      have YI : Hid (IntsAt w.heap.size w ro rs[q].2) := yI
      have HS : Hid (Gr.has (xl, xr) (rs.drop q) = (decide (rs[q] = (xl, xr)) || Gr.has (xl, xr) (rs.drop (q + 1)))) := has_drop_step _ _ _ hlt
      rw [HS.out] at hE
      clear HS yI
      generalize rs[q] = y at *
      obtain ⟨yl, yr⟩ := y
      simp only at y0 y1 YI hyl
      unfold maxLen at hyl
      replace y0 := cell_later hbW.out y0
      replace y1 := cell_later hbW.out y1
      have HP : Hid (decide (((yl, yr) : Gr.Rl) = (xl, xr)) = (decide (yl = xl) && decide (yr.length = xr.length) && decide (yr = xr))) := rl_parts yl xl yr xr
      go_upto_region 4 with fail
      go_cut [6] (fun v wc => v = .bool (decide (yl = xl) && decide (yr.length = xr.length)) ∧ ∃ n, wc = W.drewN n)
      case first =>
        by_cases e1 : yl = xl
        · subst e1
          by_cases e2 : yr.length = xr.length
          · have e2i : ((yr.length : Int) == (xr.length : Int)) = true := by simp [e2]
            go_quiet (fail)
            go_wp2_with fail
            go_meet
            case rel => exact ⟨by simp [e2], ⟨_, rfl⟩⟩
          · have e2i : ((yr.length : Int) == (xr.length : Int)) = false := by simp; omega
            go_quiet (fail)
            go_wp2_with fail
            go_meet
            case rel => exact ⟨by simp [e2], ⟨_, rfl⟩⟩
        · have e1i : (yl == xl) = false := by simp [e1]
          go_quiet (fail)
          go_wp2_with fail
          go_meet
          case rel => exact ⟨by simp [e1], ⟨_, rfl⟩⟩
      case rest =>
        obtain ⟨rfl, n2, rfl⟩ := hcut
        obtain ⟨s0, HS0⟩ : ∃ s0 : Bool, Hid (s0 = (decide (yl = xl) && decide (yr.length = xr.length))) := ⟨_, rfl⟩
        rw [← HS0.out]
        have H0 : Hid (decide (((yl, yr) : Gr.Rl) = (xl, xr)) = (s0 && decide (yr.drop 0 = xr.drop 0)) ∧ (s0 = true → yr.length = xr.length)) := by
          refine ⟨by rw [HP.out, HS0.out, List.drop_zero, List.drop_zero], fun h => ?_⟩
          rw [HS0.out, Bool.and_eq_true, decide_eq_true_eq, decide_eq_true_eq] at h
          exact h.2
        clear HP HS0
        go_wp2_with fail
        go_loopw [6, 7] (fun sv kv wr => ∃ (s : Bool) (j n : Nat), j ≤ xr.length ∧ sv = .bool s ∧ kv = .int .i64 j ∧ wr = W.drewN n ∧ Hid (decide (((yl, yr) : Gr.Rl) = (xl, xr)) = (s && decide (yr.drop j = xr.drop j)) ∧ (s = true → yr.length = xr.length))) (fun _ kv _ => xr.length - (intOf kv).toNat)
        case atStart => exact ⟨s0, 0, _, Nat.zero_le _, rfl, rfl, rfl, H0⟩
        case round =>
          obtain ⟨s, j, n3, hj, rfl, rfl, rfl, hI⟩ := hrel
          clear H0
          have fin : ∀ (s' : Bool), (s = s') → (s = false ∨ j = xr.length) → Hid (decide (((yl, yr) : Gr.Rl) = (xl, xr)) = s') := by
            intro s' e hc
            subst e
            obtain ⟨h1, h2⟩ := hI.out
            show _ = _
            rw [h1]
            cases hs : s
            · rfl
            · rcases hc with hc | hc
              · rw [hs] at hc; cases hc
              · have := h2 hs
                rw [List.drop_of_length_le (by omega), List.drop_of_length_le (by omega)]; rfl
          cases hs : s
          · have HF := fin false hs (.inl hs)
            rw [HF.out, Bool.false_or] at hE
            clear fin hI
            by_cases hjl : j < xr.length
            · have hji : (j : Int) < (xr.length : Int) := by omega
              go_wp2_with fail
              go_roundw
              case rel => exact ⟨q + 1, _, by omega, by go_num, rfl, hE⟩
              case measure => simp [intOf]; omega
            · have hji : ¬ (j : Int) < (xr.length : Int) := by omega
              go_wp2_with fail
              go_roundw
              case rel => exact ⟨q + 1, _, by omega, by go_num, rfl, hE⟩
              case measure => simp [intOf]; omega
          · by_cases hjl : j < xr.length
            · obtain ⟨h1, h2⟩ := hI.out
              have hyx := h2 hs
              have hjy : j < yr.length := by omega
              have hji : (j : Int) < (xr.length : Int) := by omega
              have hjyi : (j : Int) < (yr.length : Int) := by omega
              obtain ⟨xb, xq, hxo, _, _, v0⟩ := HX.out.get j hjl
              obtain ⟨yb, yq, hro, _, _, v1⟩ := YI.out.get j hjy
              subst hxo; subst hro
              replace v0 := cell_later hbW.out v0
              replace v1 := cell_later hbW.out v1
              have HN : Hid (decide (((yl, yr) : Gr.Rl) = (xl, xr)) = (decide (yr[j] = xr[j]) && decide (yr.drop (j + 1) = xr.drop (j + 1))) ∧ yr.length = xr.length) := ⟨by rw [h1, hs, drop_eq_step yr xr j hjy hjl]; rfl, hyx⟩
              generalize yr[j] = yv at *
              generalize xr[j] = xv at *
              clear h1 h2 hI fin
              by_cases ev : yv = xv
              · subst ev
                go_upto_region 8 with fail
                go_quiet (fail)
                go_wp2_with fail
                go_roundw
                case rel => exact ⟨true, j + 1, _, by omega, rfl, by go_num, rfl, by have := HN.out.1; simpa using this, fun _ => HN.out.2⟩
                case measure => simp [intOf]; omega
              · have evi : (yv == xv) = false := by simp [ev]
                go_upto_region 8 with fail
                go_quiet (fail)
                go_wp2_with fail
                go_roundw
                case rel => exact ⟨false, j + 1, _, by omega, rfl, by go_num, rfl, by have := HN.out.1; simpa [ev] using this, fun h => by cases h⟩
                case measure => simp [intOf]; omega
            · have HF := fin true hs (.inr (by omega))
              rw [HF.out, Bool.true_or] at hE
              have hji : ¬ (j : Int) < (xr.length : Int) := by omega
              clear fin hI
              go_wp2_with fail
              go_ret
              exact ⟨ret_bool hE.out, below_drewN hbW.out _⟩
    · have R : Hid (r = false) := by show _ = _; rw [← hE.out, List.drop_of_length_le (by omega)]; rfl
      clear hE
      go_wp2_with fail
      go_ret
      exact ⟨ret_bool R.out.symm, below_drewN hbW.out _⟩
end Go.Proofs.Ytdocbgfpnaiijaa
