/-
  Layer 3 (grammar): rows of texts that grow: withText, leftSidesOf, quotesOf; throwUndefined.
-/
import Derived.Test.YtdocbgfpnaiijaaGrSmall
namespace Go.Proofs.Ytdocbgfpnaiijaa
open Go.RowKit

theorem Try.infoStr : (Try.prog.info? 9).map (fun i => (i.zero, i.size, i.bytes)) = some (some (.string ⟨#[]⟩), 1, 16) := by kernel_rfl

/-- append of a text onto a row of texts -/
theorem wpList_append_str {ops : Array Oper} {rest : List Oper} {o : Oper} {a : Act} {Q : Exit → Act → World → Prop} {w : World} (hw : Region.wanted o (yielded ops a.tmps) = true) (s x : Operand)
    (ho : o.op = .call { callee := .builtin .append, args := #[s, x], argTypes := #[22, 22] }) (base : Nat) (v : Value) (ss : List ByteArray) (hs : a.eval s = v) (hown : OwnStrs base w v ss)
    (b c : Nat) (u : ByteArray) (hx : a.eval x = .slice (some ⟨b, 0, none⟩) 1 c) (hnews : w.cell? ⟨b, 0, none⟩ = some (.string u))
    (hb : ss.length + 1 ≤ 2000) (hbase : base ≤ w.heap.size)
    (h : ∀ g cap w', OwnStrs base w' (.slice (some ⟨g, 0, none⟩) (ss.length + 1) cap) (ss ++ [u]) → w.grownBy w' v.ownBlock → wpList Try.prog ops Q rest (a.put o.dst (.slice (some ⟨g, 0, none⟩) (ss.length + 1) cap)) w') : wpList Try.prog ops Q (o :: rest) a w := by
  obtain ⟨iA, hi, hz0, hz1, hz2⟩ := info_parts Try.infoStr
  refine wpList_wanted hw fun K hK => wp_append_lies _ s x 22 ho base 9 iA _ 1 16 Try.underlying22 hi hz0 hz1 hz2 rfl (by decide) v ss.length _ hs hown ⟨b, 0, none⟩ 1 c [.string u] hx rfl ?_ (by simp [Value.oneCell']) (by decide) (by unfold maxLen; omega) (by omega) hbase _ rfl
    (fun g cap w' h2 h3 _ _ => hK _ _ (h g cap w' ?_ h3))
  · intro j y hj
    cases j with
    | zero => simp at hj; subst hj; simpa [addr_zero_add] using hnews
    | succ j => simp at hj
  · unfold OwnStrs; rw [List.length_append, List.map_append]; exact h2

/-- what withText comes to -/
def WTPost (base : Nat) (w : World) (v : Value) (ss : List ByteArray) (e : Ending) (w' : World) : Prop :=
  ∃ xo xc, e = .returned (.slice xo ss.length xc) ∧ OwnStrs base w' (.slice xo ss.length xc) ss ∧ w.grownBy w' v.ownBlock

set_option maxHeartbeats 800000 in
theorem withText_any (base : Nat) (xo : Option Addr) (xc : Nat) (ss : List ByteArray) (x : ByteArray) (w : World) (hl : ss.length + 1 ≤ 2000) (hbase : base ≤ w.heap.size) (h : OwnStrs base w (.slice xo ss.length xc) ss) :
    Calls Try.prog 90 #[.slice xo ss.length xc, .string x] w (WTPost base w (.slice xo ss.length xc) (Gr.put ss x)) := by
  obtain ⟨ao, c, hv, hr, _⟩ := h.read
  cases hv
  have HS : Hid (StrsAt w.heap.size w xo ss) := hr
  have HO : Hid (OwnStrs base w (.slice xo ss.length xc) ss) := h
  clear hr h
  cases hin : Gr.has x ss
  · have R : Hid (Gr.put ss x = ss ++ [x]) := Gr.put_new (Gr.has_no hin)
    go_enter Try.func90, Try.ntmps90
    go_wp2_with (first
      | (go_at_call 82; refine (containsStr_is _ ss (by omega) _ _ _ _ HS.out hin).mono ?_; rintro e w1 ⟨rfl, rfl⟩)
      | (at_builtin; refine wpList_append_str rfl _ _ rfl base _ ss rfl (ownsRow_below HO.out ((Below.refl _ _).alloc (Nat.le_refl _) _)) w1.heap.size 1 x rfl (by simp [go_sem]) hl (by simp; omega) ?_; intro g cap w2 ho hg))
    go_ret
    refine ⟨some ⟨g, 0, none⟩, cap, ?_, ?_, ?_⟩
    · rw [R.out, List.length_append]; rfl
    · rw [R.out, List.length_append]; exact ho
    · exact grown_trans (grown_of_below ((Below.refl _ _).alloc (Nat.le_refl _) _)) hg
  · have R : Hid (Gr.put ss x = ss) := Gr.put_in (Gr.has_yes hin)
    go_enter Try.func90, Try.ntmps90
    go_wp2_with (first
      | (go_at_call 82; refine (containsStr_is _ ss (by omega) _ _ _ _ HS.out hin).mono ?_; rintro e w1 ⟨rfl, rfl⟩))
    go_ret
    refine ⟨xo, xc, ?_, ?_, grown_of_below (Below.refl _ _)⟩
    · rw [R.out]; rfl
    · rw [R.out]; exact HO.out

/-- what a row of texts comes to -/
def TextsPost (w : World) (ss : List ByteArray) (e : Ending) (w' : World) : Prop :=
  ∃ xo xc, e = .returned (.slice xo ss.length xc) ∧ OwnStrs w.heap.size w' (.slice xo ss.length xc) ss ∧ Below w.heap.size w w'

set_option maxHeartbeats 1600000 in
theorem leftSides_any (xs : List Rd.Al) (hl : xs.length ≤ 60) (ao : Option Addr) (c base : Nat) (w : World) (h : AlsAt base w (.slice ao xs.length c) xs) :
    Calls Try.prog 71 #[.slice ao xs.length c] w (TextsPost w (Gr.names xs)) := by
  have HA : Hid _ := h.right
  clear h
  go_enter Try.func71, Try.ntmps71
  go_wp2_with fail
  go_loopw [3, 8] (fun v i wr => ∃ (q : Nat) (xo : Option Addr) (xc : Nat), q ≤ xs.length ∧ i = .int .i64 q ∧ v = .slice xo (Gr.names (xs.take q)).length xc ∧ Hid (OwnStrs w.heap.size wr (.slice xo (Gr.names (xs.take q)).length xc) (Gr.names (xs.take q))) ∧ Hid (Below w.heap.size w wr))
    (fun _ i _ => xs.length - (intOf i).toNat)
  case atStart => exact ⟨0, none, 0, Nat.zero_le _, rfl, rfl, World.ownsRow_nil _ _ _ _, Below.refl _ _⟩
  case round =>
    obtain ⟨q, xo, xc, hq, rfl, rfl, ho, hb⟩ := hrel
    have hnl := Gr.names_len xs q
    have hsz := hb.out.size
    by_cases hlt : q < xs.length
    · obtain ⟨g, ro, rc, rfl, hg, a0, a1, a2, a3, _⟩ := HA.out q hlt
      replace a0 := cell_later hb.out a0
      replace a1 := cell_later hb.out a1
      replace a2 := cell_later hb.out a2
      replace a3 := cell_later hb.out a3
      have R : Hid _ := Gr.names_step xs q hlt
      generalize xs[q] = y at *
      obtain ⟨⟨yk, yx, yp⟩, yr⟩ := y
      simp only at a0 a1 a2 a3 R
      generalize Gr.names (xs.take q) = ns at *
      go_wp2_with fail
      refine (withText_any w.heap.size xo xc ns yx _ (by omega) (by simp; omega) (ownsRow_below ho.out ((Below.refl _ _).alloc (Nat.le_refl _) _))).mono ?_
      rintro e w2 ⟨xo2, xc2, rfl, ho2, hg2⟩
      have HB : Hid (Below w.heap.size w w2) := (hb.out.alloc hsz _).grown hg2 (by simp; omega) (fun k hk => (ho.out.lt k hk).1)
      rw [← R.out] at ho2 ⊢
      have HO : Hid _ := ho2
      clear hg2 ho2 a0 a1 a2 a3
      go_wp2_with fail
      go_roundw
      case rel => exact ⟨q + 1, _, _, by omega, by go_num, rfl, HO, HB⟩
      case measure => simp [intOf]; omega
    · have HK : Hid (xs.take q = xs) := by show _ = _; rw [List.take_of_length_le (by omega)]
      rw [HK.out] at ho ⊢
      go_wp2_with fail
      go_ret
      exact ⟨xo, xc, rfl, ho.out, hb.out⟩

set_option maxHeartbeats 3200000 in
theorem quotesOf_any (xs : List Rd.Al) (hl : xs.length ≤ 60) (h8 : ∀ x ∈ xs, x.2.length ≤ 8) (ao : Option Addr) (c base : Nat) (w : World) (h : AlsAt base w (.slice ao xs.length c) xs) :
    Calls Try.prog 70 #[.slice ao xs.length c] w (TextsPost w (Gr.terms xs)) := by
  have HA : Hid _ := h.right
  have H8 : Hid _ := h8
  clear h h8
  go_enter Try.func70, Try.ntmps70
  go_wp2_with fail
  go_loopw [3, 10] (fun v i wr => ∃ (q : Nat) (xo : Option Addr) (xc : Nat), q ≤ xs.length ∧ i = .int .i64 q ∧ v = .slice xo (Gr.terms (xs.take q)).length xc ∧ Hid (OwnStrs w.heap.size wr (.slice xo (Gr.terms (xs.take q)).length xc) (Gr.terms (xs.take q))) ∧ Hid (Below w.heap.size w wr))
    (fun _ i _ => xs.length - (intOf i).toNat)
  case atStart => exact ⟨0, none, 0, Nat.zero_le _, rfl, rfl, World.ownsRow_nil _ _ _ _, Below.refl _ _⟩
  case round =>
    obtain ⟨q, xo, xc, hq, rfl, rfl, ho, hb⟩ := hrel
    have hnl := Gr.terms_len xs H8.out q
    have hsz := hb.out.size
    by_cases hlt : q < xs.length
    · obtain ⟨g, ro, rc, rfl, hg, a0, a1, a2, a3, at4⟩ := HA.out q hlt
      replace a0 := cell_later hb.out a0
      replace a1 := cell_later hb.out a1
      replace a2 := cell_later hb.out a2
      replace a3 := cell_later hb.out a3
      have HT : Hid (TksAt w.heap.size w ro xs[q].2) := at4
      have hyl := H8.out xs[q] (List.getElem_mem hlt)
      have R : Hid _ := Gr.terms_step xs q hlt
      clear at4
      generalize xs[q] = y at *
      obtain ⟨⟨yk, yx, yp⟩, yr⟩ := y
      simp only at a0 a1 a2 a3 HT hyl
      have R' : Hid (Gr.terms (xs.take (q + 1)) = yr.foldl Gr.quote (Gr.terms (xs.take q))) := R.out
      clear R
      generalize Gr.terms (xs.take q) = ns at *
      go_wp2_with fail
      have hb1 : Hid (Below wr.heap.size wr (wr.alloc (Obj.cells #[Value.int IntKind.i64 yk, Value.string yx, Value.int IntKind.i64 yp, Value.slice ro yr.length rc] 104))) := (Below.refl _ _).alloc (Nat.le_refl _) _
      have ho1 : Hid (OwnStrs w.heap.size (wr.alloc (Obj.cells #[Value.int IntKind.i64 yk, Value.string yx, Value.int IntKind.i64 yp, Value.slice ro yr.length rc] 104)) (.slice xo ns.length xc) ns) := ownsRow_below ho.out hb1.out
      have hbw : Hid (Below w.heap.size w (wr.alloc (Obj.cells #[Value.int IntKind.i64 yk, Value.string yx, Value.int IntKind.i64 yp, Value.slice ro yr.length rc] 104))) := hb.out.alloc hsz _
      have hbz : w.heap.size ≤ wr.heap.size := hsz
      clear a0 a1 a2 a3
      go_loopw [3, 17] (fun v i wq => ∃ (k : Nat) (zo : Option Addr) (zc : Nat), k ≤ yr.length ∧ i = .int .i64 k ∧ v = .slice zo ((yr.take k).foldl Gr.quote ns).length zc ∧ Hid (OwnStrs w.heap.size wq (.slice zo ((yr.take k).foldl Gr.quote ns).length zc) ((yr.take k).foldl Gr.quote ns)) ∧ Hid (Below w.heap.size w wq))
        (fun _ i _ => yr.length - (intOf i).toNat)
      case atStart => exact ⟨0, xo, xc, Nat.zero_le _, rfl, rfl, ho1, hbw⟩
      case round =>
        obtain ⟨k, zo, zc, hk, rfl, rfl, hzo, hzb⟩ := hrel
        clear ho1 hbw hb1
        have hql := Gr.quotes_len ns yr k
        have hsq := hzb.out.size
        by_cases hkl : k < yr.length
        · obtain ⟨tb, to, rfl, ht1, ht2, t0, t1, t2⟩ := (HT.out.later hzb.out) k hkl
          have R : Hid _ := Gr.quotes_step ns yr k hkl
          generalize yr[k] = t at *
          obtain ⟨tk, tx, tp⟩ := t
          simp only at t0 t1 t2 R
          generalize (yr.take k).foldl Gr.quote ns = ms at *
          by_cases h2 : tk = 2
          · subst h2
            have Q : Hid (Gr.quote ms ⟨2, tx, tp⟩ = Gr.put ms tx) := by show _ = _; simp [Gr.quote]
            rw [Q.out] at R
            clear Q
            go_wp2_with fail
            refine (withText_any w.heap.size zo zc ms tx _ (by omega) (by simp; omega) (ownsRow_below hzo.out ((Below.refl _ _).alloc (Nat.le_refl _) _))).mono ?_
            rintro e w2 ⟨xo2, xc2, rfl, ho2, hg2⟩
            have HB : Hid (Below w.heap.size w w2) := (hzb.out.alloc hsq _).grown hg2 (by simp; omega) (fun k hk => (hzo.out.lt k hk).1)
            rw [← R.out] at ho2 ⊢
            have HO : Hid _ := ho2
            clear hg2 ho2 t0 t1 t2
            go_wp2_with fail
            go_roundw
            case rel => exact ⟨k + 1, _, _, by omega, by go_num, rfl, HO, HB⟩
            case measure => simp [intOf]; omega
          · have hk2 : (tk == 2) = false := by simp [h2]
            have Q : Hid (Gr.quote ms ⟨tk, tx, tp⟩ = ms) := by show _ = _; simp [Gr.quote, h2]
            rw [Q.out] at R
            clear Q h2
            have hb2 : Hid (Below wr.heap.size wr (wr.alloc (Obj.cells #[Value.int IntKind.i64 tk, Value.string tx, Value.int IntKind.i64 tp] 101))) := (Below.refl _ _).alloc (Nat.le_refl _) _
            rw [← R.out] at hzo ⊢
            go_wp2_with fail
            go_roundw
            case rel => exact ⟨k + 1, _, _, by omega, by go_num, rfl, ownsRow_below hzo.out hb2.out, hzb.out.alloc hsq _⟩
            case measure => simp [intOf]; omega
        · have HK : Hid ((yr.take k).foldl Gr.quote ns = Gr.terms (xs.take (q + 1))) := by show _ = _; rw [List.take_of_length_le (by omega), R'.out]
          rw [HK.out] at hzo ⊢
          go_wp2_with fail
          go_roundw
          case rel => exact ⟨q + 1, _, _, by omega, by go_num, rfl, hzo, hzb⟩
          case measure => simp [intOf]; omega
    · have HK : Hid (xs.take q = xs) := by show _ = _; rw [List.take_of_length_le (by omega)]
      rw [HK.out] at ho ⊢
      go_wp2_with fail
      go_ret
      exact ⟨xo, xc, rfl, ho.out, hb.out⟩

/-- what throwUndefined comes to -/
def UndefPost (w : World) (r : Option Int) (e : Ending) (w' : World) : Prop :=
  Below w.heap.size w w' ∧ ((r = none ∧ e = .returned (.tuple #[])) ∨ ∃ p, r = some p ∧ e = thrown (13, p))

set_option maxHeartbeats 3200000 in
theorem throwUndefined_any (xs : List Rd.Al) (hl : xs.length ≤ 60) (h8 : ∀ x ∈ xs, x.2.length ≤ 8) (ao : Option Addr) (c base : Nat) (no : Option Addr) (nc : Nat) (ns : List ByteArray) (hn : ns.length ≤ 2000) (w : World) (h : AlsAt base w (.slice ao xs.length c) xs)
    (hN : StrsAt w.heap.size w no ns) :
    Calls Try.prog 72 #[.slice ao xs.length c, .slice no ns.length nc] w (UndefPost w (Gr.undef ns xs)) := by
  have HA : Hid _ := h.right
  have H8 : Hid _ := h8
  have HN : Hid _ := hN
  clear h h8 hN
  go_enter Try.func72, Try.ntmps72
  go_wp2_with fail
  go_loopw [10] (fun i wr => ∃ (q : Nat), q ≤ xs.length ∧ i = .int .i64 q ∧ Hid (Gr.undef ns xs = Gr.undef ns (xs.drop q)) ∧ Hid (Below w.heap.size w wr)) (fun i _ => xs.length - (intOf i).toNat)
  case atStart => exact ⟨0, Nat.zero_le _, rfl, by show _ = _; rw [List.drop_zero], Below.refl _ _⟩
  case round =>
    obtain ⟨q, hq, rfl, hE, hb⟩ := hrel
    have hsz := hb.out.size
    by_cases hlt : q < xs.length
    · obtain ⟨g, ro, rc, rfl, hg, a0, a1, a2, a3, at4⟩ := HA.out q hlt
      replace a0 := cell_later hb.out a0
      replace a1 := cell_later hb.out a1
      replace a2 := cell_later hb.out a2
      replace a3 := cell_later hb.out a3
      have HT : Hid (TksAt w.heap.size w ro xs[q].2) := at4
      have hyl := H8.out xs[q] (List.getElem_mem hlt)
      have R : Hid (xs.drop q = xs[q] :: xs.drop (q + 1)) := List.drop_eq_getElem_cons hlt
      clear at4
      generalize xs[q] = y at *
      obtain ⟨⟨yk, yx, yp⟩, yr⟩ := y
      simp only at a0 a1 a2 a3 HT hyl
      have E1 : Hid (Gr.undef ns xs = (Gr.undefT ns yr).or (Gr.undef ns (xs.drop (q + 1)))) := by show _ = _; rw [hE.out, R.out, Gr.undef]
      clear R hE
      go_wp2_with fail
      have hbw : Hid (Below w.heap.size w (wr.alloc (Obj.cells #[Value.int IntKind.i64 yk, Value.string yx, Value.int IntKind.i64 yp, Value.slice ro yr.length rc] 104))) := hb.out.alloc hsz _
      clear a0 a1 a2 a3
      go_loopw [17] (fun i wq => ∃ (k : Nat), k ≤ yr.length ∧ i = .int .i64 k ∧ Hid (Gr.undefT ns yr = Gr.undefT ns (yr.drop k)) ∧ Hid (Below w.heap.size w wq)) (fun i _ => yr.length - (intOf i).toNat)
      case atStart => exact ⟨0, Nat.zero_le _, rfl, by show _ = _; rw [List.drop_zero], hbw⟩
      case round =>
        obtain ⟨k, hk, rfl, hF, hzb⟩ := hrel
        clear hbw
        have hsq := hzb.out.size
        by_cases hkl : k < yr.length
        · obtain ⟨tb, to, rfl, ht1, ht2, t0, t1, t2⟩ := (HT.out.later hzb.out) k hkl
          have R : Hid (yr.drop k = yr[k] :: yr.drop (k + 1)) := List.drop_eq_getElem_cons hkl
          generalize yr[k] = t at *
          obtain ⟨tk, tx, tp⟩ := t
          simp only at t0 t1 t2
          have hb2 : Hid (Below w.heap.size w (wr.alloc (Obj.cells #[Value.int IntKind.i64 tk, Value.string tx, Value.int IntKind.i64 tp] 101))) := hzb.out.alloc hsq _
          by_cases h1 : tk = 1
          · subst h1
            cases hin : Gr.has tx ns
            · have E2 : Hid (Gr.undef ns xs = some tp) := by
                show _ = _
                rw [E1.out, hF.out, R.out, Gr.undefT]; simp [hin]
              go_wp2_with (first
                | (go_at_call 82; refine (containsStr_is _ ns hn _ _ _ _ (HN.out.later hb2.out).size hin).mono ?_; rintro e w1 ⟨rfl, rfl⟩)
                | (go_at_call 73; refine (gthrow_any _ _ _).mono ?_; rintro e w1 ⟨rfl, rfl⟩; unfold thrown))
              exact ⟨rfl, hb2.out, .inr ⟨tp, E2.out, rfl⟩⟩
            · have E2 : Hid (Gr.undefT ns yr = Gr.undefT ns (yr.drop (k + 1))) := by
                show _ = _
                rw [hF.out, R.out, Gr.undefT]; simp [hin]
              clear hF R
              go_wp2_with (first
                | (go_at_call 82; refine (containsStr_is _ ns hn _ _ _ _ (HN.out.later hb2.out).size hin).mono ?_; rintro e w1 ⟨rfl, rfl⟩))
              go_roundw
              case rel => exact ⟨k + 1, by omega, by go_num, E2, hb2⟩
              case measure => simp [intOf]; omega
          · have hk1 : (tk == 1) = false := by simp [h1]
            have E2 : Hid (Gr.undefT ns yr = Gr.undefT ns (yr.drop (k + 1))) := by
              show _ = _
              rw [hF.out, R.out, Gr.undefT]; simp [h1]
            clear hF R h1
            go_wp2_with fail
            go_roundw
            case rel => exact ⟨k + 1, by omega, by go_num, E2, hb2⟩
            case measure => simp [intOf]; omega
        · have E2 : Hid (Gr.undef ns xs = Gr.undef ns (xs.drop (q + 1))) := by
            show _ = _
            have := hF.out
            rw [List.drop_of_length_le (by omega)] at this
            rw [E1.out, this]; rfl
          clear E1 hF
          go_wp2_with fail
          go_roundw
          case rel => exact ⟨q + 1, by omega, by go_num, E2, hzb⟩
          case measure => simp [intOf]; omega
    · have E2 : Hid (Gr.undef ns xs = none) := by show _ = _; rw [hE.out, List.drop_of_length_le (by omega)]; rfl
      go_wp2_with fail
      go_end0
      exact ⟨hb.out, .inl ⟨E2.out, rfl⟩⟩
end Go.Proofs.Ytdocbgfpnaiijaa
