/-
  Layer 3 (grammar): whether a rule is among some: slices.Equal, hasAlike.
-/
import Derived.Test.YtdocbgfpnaiijaaGrSmall
namespace Go.Proofs.Ytdocbgfpnaiijaa
open Go.RowKit

theorem list_eq_drop {xs ys : List Int} (h : xs.length = ys.length) (k : Nat) (hk : k < xs.length) : (xs.drop k = ys.drop k) ↔ (xs[k] = ys[k] ∧ xs.drop (k + 1) = ys.drop (k + 1)) := by
  rw [List.drop_eq_getElem_cons hk, List.drop_eq_getElem_cons (show k < ys.length by omega), List.cons.injEq]

set_option maxHeartbeats 800000 in
theorem equalInts_any (xs ys : List Int) (hl : xs.length ≤ 4000) (ao ao' : Option Addr) (c c' : Nat) (w : World) (h1 : IntsAt w.heap.size w ao xs) (h2 : IntsAt w.heap.size w ao' ys) :
    Calls Try.prog 94 #[.slice ao xs.length c, .slice ao' ys.length c'] w fun e w' => e = .returned (.bool (decide (xs = ys))) ∧ ∃ n, w' = w.drewN n := by
  have RA : Hid _ := h1.get
  have RB : Hid _ := h2.get
  clear h1 h2
  by_cases hlen : xs.length = ys.length
  · have hne : ((xs.length : Int) != (ys.length : Int)) = false := by simp; omega
    go_enter Try.func94, Try.ntmps94
    go_wp2_with fail
    go_loopw [13] (fun i wr => ∃ k : Nat, k ≤ xs.length ∧ i = .int .i64 k ∧ Hid (xs = ys ↔ xs.drop k = ys.drop k) ∧ ∃ n, wr = w.drewN n) (fun i _ => xs.length - (intOf i).toNat)
    case atStart => exact ⟨0, Nat.zero_le _, rfl, by show _ ↔ _; simp, 0, rfl⟩
    case round =>
      obtain ⟨k, hk, rfl, hE, n, rfl⟩ := hrel
      by_cases hlt : k < xs.length
      · obtain ⟨g, o, rfl, _, _, a0⟩ := RA.out k hlt
        obtain ⟨g', o', rfl, _, _, b0⟩ := RB.out k (by omega)
        have hk2 : (k : Int) < (ys.length : Int) := by omega
        have R : Hid _ := list_eq_drop hlen k hlt
        generalize xs[k] = x at *
        generalize ys[k]'(by omega) = y at *
        by_cases e : x = y
        · subst e
          have R2 : Hid (xs = ys ↔ xs.drop (k + 1) = ys.drop (k + 1)) := by show _ ↔ _; rw [hE.out, R.out]; simp
          clear R hE
          go_wp2_with fail
          go_quiet (fail)
          go_wp2_with fail
          go_roundw
          case rel => exact ⟨k + 1, by omega, by go_num, R2, _, rfl⟩
          case measure => simp [intOf]; omega
        · have R2 : Hid (decide (xs = ys) = false) := by show _ = _; rw [decide_eq_false_iff_not, hE.out, R.out]; intro h; exact e h.1
          have hd : (x != y) = true := by simp [e]
          clear R hE e
          go_wp2_with fail
          go_quiet (fail)
          go_wp2_with fail
          go_ret
          exact ⟨ret_bool R2.out.symm, _, World.drewN_drewN _ _ _⟩
      · have R2 : Hid (decide (xs = ys) = true) := by show _ = _; rw [decide_eq_true_iff, hE.out, List.drop_of_length_le (by omega), List.drop_of_length_le (by omega)]
        clear hE
        go_wp2_with fail
        go_ret
        exact ⟨ret_bool R2.out.symm, n, rfl⟩
  · have hne : ((xs.length : Int) != (ys.length : Int)) = true := by simp; omega
    have R2 : Hid (decide (xs = ys) = false) := by show _ = _; rw [decide_eq_false_iff_not]; intro h; exact hlen (by rw [h])
    go_enter Try.func94, Try.ntmps94
    go_wp2_with fail
    go_ret
    exact ⟨ret_bool R2.out.symm, 0, rfl⟩

set_option maxHeartbeats 800000 in
theorem alike_any (x y : Gr.Rl) (hl : x.2.length ≤ 4000) (xo yo : Option Addr) (xc yc : Nat) (P : Nat) (w : World) (hx : IntsAt w.heap.size w xo x.2) (hy : IntsAt w.heap.size w yo y.2)
    (c0 : w.cell? ⟨P, 0, none⟩ = some (.int .i64 y.1)) (c1 : w.cell? ⟨P, 1, none⟩ = some (.slice yo y.2.length yc)) (hP : P < w.heap.size) :
    Calls Try.prog 93 #[.agg #[.int .i64 x.1, .slice xo x.2.length xc], .pointer (some ⟨P, 0, none⟩)] w fun e w' => e = .returned (.bool (decide (x = y))) ∧ Below w.heap.size w w' := by
  obtain ⟨xl, xr⟩ := x
  obtain ⟨yl, yr⟩ := y
  simp only at hl hx hy c0 c1 ⊢
  have RA : Hid (IntsAt w.heap.size w xo xr) := hx
  have RB : Hid (IntsAt w.heap.size w yo yr) := hy
  clear hx hy
  have hb : Hid (Below w.heap.size w (w.alloc (Obj.cells #[Value.int IntKind.i64 xl, Value.slice xo xr.length xc] 31))) := (Below.refl _ w).alloc (Nat.le_refl _) _
  by_cases e : xl = yl
  · subst e
    have R : Hid (decide (xr = yr) = decide ((xl, xr) = (xl, yr))) := by show _ = _; rw [decide_eq_decide]; simp
    go_enter Try.func93, Try.ntmps93
    go_wp2_with (first | (go_at_call 94; refine (equalInts_any xr yr hl _ _ _ _ _ (RA.out.later hb.out).size (RB.out.later hb.out).size).mono ?_; rintro e w1 ⟨rfl, n, rfl⟩))
    go_ret
    exact ⟨ret_bool R.out, below_drewN hb.out _⟩
  · have hk : (xl == yl) = false := by simp [e]
    have R : Hid (false = decide ((xl, xr) = (yl, yr))) := by show _ = _; rw [eq_comm, decide_eq_false_iff_not]; intro h; exact e (congrArg Prod.fst h)
    go_enter Try.func93, Try.ntmps93
    go_wp2_with fail
    go_ret
    exact ⟨ret_bool R.out, hb.out⟩

/-- a rule's closure, as a value -/
def alikeF (P : Nat) : Value := .func (.func 93) #[] #[.pointer (some ⟨P, 0, none⟩)]

set_option maxHeartbeats 1600000 in
theorem indexAlike_any (rs : List Gr.Rl) (y : Gr.Rl) (hl : rs.length ≤ 2000) (hl1 : ∀ r ∈ rs, r.2.length ≤ 4000) (ao yo : Option Addr) (c yc : Nat) (P : Nat) (w : World) (hx : RlsAt w.heap.size w ao rs) (hy : IntsAt w.heap.size w yo y.2)
    (c0 : w.cell? ⟨P, 0, none⟩ = some (.int .i64 y.1)) (c1 : w.cell? ⟨P, 1, none⟩ = some (.slice yo y.2.length yc)) (hP : P < w.heap.size) :
    Calls Try.prog 107 #[.slice ao rs.length c, alikeF P] w fun e w' => e = .returned (.int .i64 (Gr.pos y rs)) ∧ Below w.heap.size w w' := by
  have HR : Hid (RlsAt w.heap.size w ao rs) := hx
  have HY : Hid (IntsAt w.heap.size w yo y.2) := hy
  have H1 : Hid _ := hl1
  have HC : Hid (w.cell? ⟨P, 0, none⟩ = some (.int .i64 y.1) ∧ w.cell? ⟨P, 1, none⟩ = some (.slice yo y.2.length yc)) := ⟨c0, c1⟩
  clear hx hy hl1 c0 c1
  unfold alikeF
  go_enter Try.func107, Try.ntmps107
  go_wp2_with fail
  go_loopw [8] (fun i wr => ∃ q : Nat, q ≤ rs.length ∧ i = .int .i64 q ∧ Hid (Gr.pos y rs = if Gr.pos y (rs.drop q) = -1 then -1 else q + Gr.pos y (rs.drop q)) ∧ Hid (Below w.heap.size w wr)) (fun i _ => rs.length - (intOf i).toNat)
  case atStart => exact ⟨0, Nat.zero_le _, rfl, by show _ = _; rw [List.drop_zero]; split <;> omega, Below.refl _ _⟩
  case round =>
    obtain ⟨q, hq, rfl, hE, hb⟩ := hrel
    by_cases hlt : q < rs.length
    · obtain ⟨b, o, ro, rc, rfl, hb1, _, k0, k1, ki, _⟩ := HR.out q hlt
      have HD : Hid (rs.drop q = rs[q] :: rs.drop (q + 1)) := List.drop_eq_getElem_cons hlt
      have hrl := H1.out rs[q] (List.getElem_mem hlt)
      have KI : Hid (IntsAt w.heap.size w ro rs[q].2) := ki
      replace k0 := cell_later hb.out k0
      replace k1 := cell_later hb.out k1
      clear ki
      generalize rs[q] = x at *
      have CL : Hid (∀ _ : Unit, _) := fun _ => alike_any x y hrl ro yo rc yc P wr (KI.out.later hb.out).size (HY.out.later hb.out).size (cell_later hb.out HC.out.1) (cell_later hb.out HC.out.2) (Nat.lt_of_lt_of_le hP hb.out.size)
      have PE := hE.out
      rw [HD.out, Gr.pos] at PE
      obtain ⟨xl, xr⟩ := x
      simp only at k0 k1 CL
      go_wp2_with fail
      refine (CL.out ()).mono ?_
      rintro e w1 ⟨rfl, hb1⟩
      have HB : Hid (Below w.heap.size w w1) := hb.out.trans (hb1.mono hb.out.size)
      clear CL hb1
      by_cases e : (xl, xr) = y
      · rw [if_pos e.symm] at PE
        have R : Hid (Gr.pos y rs = q) := by show _ = _; rw [PE]; simp
        have hd : decide ((xl, xr) = y) = true := by simp [e]
        rw [hd]
        clear PE HD hE hd e
        go_wp2_with fail
        go_ret
        exact ⟨ret_int R.out.symm, HB.out⟩
      · have e' : ¬ y = (xl, xr) := fun h => e h.symm
        rw [if_neg e'] at PE
        have R : Hid (Gr.pos y rs = if Gr.pos y (rs.drop (q + 1)) = -1 then -1 else ((q + 1 : Nat) : Int) + Gr.pos y (rs.drop (q + 1))) := by
          show _ = _
          have := (Gr.pos_has y (rs.drop (q + 1))).1
          rw [PE]
          generalize Gr.pos y (rs.drop (q + 1)) = z at this ⊢
          by_cases h : z = -1
          · subst h; simp
          · rw [if_neg h, if_neg h, if_neg (by omega)]; omega
        have hd : decide ((xl, xr) = y) = false := by simp [e]
        rw [hd]
        clear PE HD hE hd e e'
        go_wp2_with fail
        go_roundw
        case rel => exact ⟨q + 1, by omega, by go_num, R, HB⟩
        case measure => simp [intOf]; omega
    · have R : Hid (Gr.pos y rs = -1) := by show _ = _; rw [hE.out, List.drop_of_length_le (by omega)]; simp [Gr.pos]
      clear hE
      go_wp2
      go_ret
      exact ⟨ret_int R.out.symm, hb.out⟩

set_option maxHeartbeats 800000 in
theorem hasAlike_is (r : Bool) (rs : List Gr.Rl) (y : Gr.Rl) (hl : rs.length ≤ 2000) (hl1 : ∀ r ∈ rs, r.2.length ≤ 4000) (ao yo : Option Addr) (c yc : Nat) (w : World) (hx : RlsAt w.heap.size w ao rs) (hy : IntsAt w.heap.size w yo y.2) (hr : Gr.has y rs = r) :
    Calls Try.prog 75 #[.slice ao rs.length c, .agg #[.int .i64 y.1, .slice yo y.2.length yc]] w fun e w' => e = .returned (.bool r) ∧ Below w.heap.size w w' := by
  have hmf : ∀ (fn : Fn) (first cap : Array Value) (w : World), (Instr.makeFunc fn first cap).run Try.prog w = .ok (.func fn first cap) w := fun _ _ _ _ => rfl
  have R : Hid (decide (0 ≤ Gr.pos y rs) = r) := (Gr.pos_has y rs).2.1.trans hr
  have hb : Hid (Below w.heap.size w (w.alloc (Obj.cells #[Value.int IntKind.i64 y.1, Value.slice yo y.2.length yc] 31))) := (Below.refl _ w).alloc (Nat.le_refl _) _
  have IX : Hid (∀ _ : Unit, _) := fun _ => indexAlike_any rs y hl hl1 ao yo c yc w.heap.size (w.alloc (Obj.cells #[Value.int IntKind.i64 y.1, Value.slice yo y.2.length yc] 31)) (hx.later hb.out).size (hy.later hb.out).size (by simp [go_sem]) (by simp [go_sem]) (by simp)
  unfold alikeF at IX
  clear hx hy hr hl1
  have CF : Hid (∀ W, Calls Try.prog 107 #[.slice ao rs.length c, .func (.func 93) #[] #[.pointer (some ⟨w.heap.size, 0, none⟩)]] W (fun e w' => e = .returned (.int .i64 (Gr.pos y rs)) ∧ Below W.heap.size W w') →
      Calls Try.prog 92 #[.slice ao rs.length c, .func (.func 93) #[] #[.pointer (some ⟨w.heap.size, 0, none⟩)]] W (fun e w' => e = .returned (.bool r) ∧ Below W.heap.size W w')) := by
    intro W hW
    have HW : Hid (∀ _ : Unit, _) := fun _ => hW
    clear hW
    go_enter Try.func92, Try.ntmps92
    go_wp2_with (go_at_call 107; refine (HW.out ()).mono ?_; rintro e w1 ⟨rfl, hb1⟩)
    go_ret
    exact ⟨ret_bool R.out, hb1⟩
  obtain ⟨yl, yr⟩ := y
  simp only at hb IX ⊢
  go_enter Try.func75, Try.ntmps75
  go_wp2_with (go_at_call 92; refine (CF.out _ (IX.out ())).mono ?_; rintro e w1 ⟨rfl, hb1⟩)
  go_ret
  exact ⟨rfl, hb.out.trans (hb1.mono hb.out.size)⟩
end Go.Proofs.Ytdocbgfpnaiijaa
