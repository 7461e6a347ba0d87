/-
  The law ReadRow, walked: it returns true, of any two rows of tokens.
-/
import Derived.Test.YtjcgnablfhkmoaaReadOpen
import Derived.Test.YtjcgnablfhkmoaaReadMath2
import Derived.Laws.AppendOwnNone
namespace Go.Proofs.Ytjcgnablfhkmoaa
open Go.RowKit

set_option maxHeartbeats 1600000 in
theorem readRow_unfair (ao bo : Option Addr) (c d : Nat) (ts us : List Rd.Tk) (w : World) (hT : TksAt w.heap.size w ao ts) (hU : TksAt w.heap.size w bo us) (hl : ts.length ≤ maxLen) (hl2 : us.length ≤ maxLen)
    (hm : ∀ t ∈ ts, t.text.size ≤ maxLen) (hm2 : ∀ t ∈ us, t.text.size ≤ maxLen) (h : fair ts = false ∨ (fair ts = true ∧ fair us = false) ∨ (fair ts = true ∧ fair us = true ∧ 600 < ts.length + us.length)) :
    Calls Try.prog 7 #[.slice ao ts.length c, .slice bo us.length d] w fun e w' => e = .returned (.bool true) ∧ Below w.heap.size w w' := by
  have HT : Hid (TksAt w.heap.size w ao ts) := hT
  have HU : Hid (TksAt w.heap.size w bo us) := hU
  have HM : Hid _ := hm
  have HM2 : Hid _ := hm2
  clear hT hU hm hm2
  rcases h with h1 | ⟨h1, h2⟩ | ⟨h1, h2, h3⟩
  · go_enter Try.func7, Try.ntmps7
    go_wp2_with (first | (go_at_call 9; refine (fair_is _ _ _ _ _ hl HM.out HT.out h1).mono ?_; rintro e w1 ⟨rfl, rfl⟩) | (go_at_call 10; refine (rwakes_any _).mono ?_; rintro e w1 ⟨rfl, hb⟩))
    go_ret
    exact ⟨rfl, hb⟩
  · go_enter Try.func7, Try.ntmps7
    go_wp2_with fail
    refine (fair_is _ _ _ _ _ hl HM.out HT.out h1).mono ?_
    rintro e w1 ⟨rfl, rfl⟩
    go_wp2_with (first | (go_at_call 9; refine (fair_is _ _ _ _ _ hl2 HM2.out HU.out h2).mono ?_; rintro e w1 ⟨rfl, rfl⟩) | (go_at_call 10; refine (rwakes_any _).mono ?_; rintro e w1 ⟨rfl, hb⟩))
    go_ret
    exact ⟨rfl, hb⟩
  · have l1 := fair_len h1
    have l2 := fair_len h2
    have h3' : (600 : Int) < (ts.length : Int) + (us.length : Int) := by omega
    go_enter Try.func7, Try.ntmps7
    go_wp2_with fail
    refine (fair_is _ _ _ _ _ hl HM.out HT.out h1).mono ?_
    rintro e w1 ⟨rfl, rfl⟩
    go_wp2_with (first | (go_at_call 9; refine (fair_is _ _ _ _ _ hl2 HM2.out HU.out h2).mono ?_; rintro e w1 ⟨rfl, rfl⟩) | (go_at_call 10; refine (rwakes_any _).mono ?_; rintro e w1 ⟨rfl, hb⟩))
    go_ret
    exact ⟨rfl, hb⟩

theorem wpList_wanted {P : Program} {ops : Array Oper} {Q : Exit → Act → World → Prop} {a : Act} {w : World} {rest : List Oper} {o : Oper} (hw : Region.wanted o (yielded ops a.tmps) = true)
    (h : ∀ K : Act → World → Prop, (∀ a w, wpList P ops Q rest a w → K a w) → o.wp P a w K Q) : wpList P ops Q (o :: rest) a w :=
  wpList_step fun K hK => by rw [if_pos hw]; exact h K hK

/-- append onto a row of alternatives, within a guarded part of a region -/
theorem wpList_append_als {ops : Array Oper} {rest : List Oper} {o : Oper} {a : Act} {Q : Exit → Act → World → Prop} {w : World} (hw : Region.wanted o (yielded ops a.tmps) = true) (s x : Operand)
    (ho : o.op = .call { callee := .builtin .append, args := #[s, x], argTypes := #[25, 25] }) (base : Nat) (v : Value) (n : Nat) (xs : List Value) (hs : a.eval s = v) (hown : w.ownsRow base 40 4 v n xs)
    (ad : Addr) (m c : Nat) (news : List Value) (hx : a.eval x = .slice (some ad) m c) (hl : news.length = m * 4) (hnews : ∀ j u, news[j]? = some u → w.cell? (ad.add j) = some u) (h1 : ∀ u ∈ news, u.oneCell' = true)
    (hm : 0 < m) (hb : n + m ≤ 2000) (hbase : base ≤ w.heap.size)
    (h : ∀ g cap w', w'.ownsRow base 40 4 (.slice (some ⟨g, 0, none⟩) (n + m) cap) (n + m) (xs ++ news) → w.grownBy w' v.ownBlock → wpList Try.prog ops Q rest (a.put o.dst (.slice (some ⟨g, 0, none⟩) (n + m) cap)) w') : wpList Try.prog ops Q (o :: rest) a w := by
  obtain ⟨iA, hi, hz0, hz1, hz2⟩ := info_parts Try.infoAlt
  exact wpList_wanted hw fun K hK => wp_append_lies _ s x 25 ho base 40 iA _ 4 56 Try.underlying25 hi hz0 hz1 hz2 rfl (by decide) v n xs hs hown ad m c news hx hl hnews h1 hm (by unfold maxLen; omega) (by omega) hbase _ rfl
    (fun g cap w' h2 h3 _ _ => hK _ _ (h g cap w' h2 h3))

/-- append onto a row of tokens -/
theorem wpList_append_tks {ops : Array Oper} {rest : List Oper} {o : Oper} {a : Act} {Q : Exit → Act → World → Prop} {w : World} (hw : Region.wanted o (yielded ops a.tmps) = true) (s x : Operand)
    (ho : o.op = .call { callee := .builtin .append, args := #[s, x], argTypes := #[22, 22] }) (base : Nat) (v : Value) (n : Nat) (xs : List Value) (hs : a.eval s = v) (hown : w.ownsRow base 38 3 v n xs)
    (ad : Addr) (m c : Nat) (news : List Value) (hx : a.eval x = .slice (some ad) m c) (hl : news.length = m * 3) (hnews : ∀ j u, news[j]? = some u → w.cell? (ad.add j) = some u) (h1 : ∀ u ∈ news, u.oneCell' = true)
    (hm : 0 < m) (hb : n + m ≤ 2000) (hbase : base ≤ w.heap.size)
    (h : ∀ g cap w', w'.ownsRow base 38 3 (.slice (some ⟨g, 0, none⟩) (n + m) cap) (n + m) (xs ++ news) → w.grownBy w' v.ownBlock → wpList Try.prog ops Q rest (a.put o.dst (.slice (some ⟨g, 0, none⟩) (n + m) cap)) w') : wpList Try.prog ops Q (o :: rest) a w := by
  obtain ⟨iA, hi, hz0, hz1, hz2⟩ := info_parts Try.infoTk
  exact wpList_wanted hw fun K hK => wp_append_lies _ s x 22 ho base 38 iA _ 3 32 Try.underlying22 hi hz0 hz1 hz2 rfl (by decide) v n xs hs hown ad m c news hx hl hnews h1 hm (by unfold maxLen; omega) (by omega) hbase _ rfl
    (fun g cap w' h2 h3 _ _ => hK _ _ (h g cap w' h2 h3))

theorem empty_arow (w : World) (base : Nat) (h : base ≤ w.heap.size) : (w.alloc (Obj.cells #[] 40)).ownsRow base 40 4 (.slice (some ⟨w.heap.size, 0, none⟩) 0 0) 0 [] :=
  ⟨rfl, .inr ⟨w.heap.size, 0, #[], rfl, h, heap_alloc_new w _, Nat.le_refl _, Nat.zero_le _, rfl, rfl⟩⟩

theorem alsCells_one {w : World} {base : Nat} {ps : List (Rd.Al × Value)} (h : ∀ p ∈ ps, w.ownsRow base 38 3 p.2 p.1.2.length (tksCells p.1.2)) : ∀ u ∈ alsCells ps, u.oneCell' = true := by
  intro u hu
  obtain ⟨p, hp, h'⟩ := List.mem_flatMap.1 hu
  simp only [alCells, tkCells, List.cons_append, List.nil_append, List.mem_cons, List.not_mem_nil, or_false] at h'
  rcases h' with rfl | rfl | rfl | rfl
  · rfl
  · rfl
  · rfl
  · obtain ⟨ao, n, c, e⟩ := ownsRow_shape (h p hp)
    rw [e]; rfl

theorem empty_row (w : World) (base : Nat) (h : base ≤ w.heap.size) : (w.alloc (Obj.cells #[] 38)).ownsRow base 38 3 (.slice (some ⟨w.heap.size, 0, none⟩) 0 0) 0 [] :=
  ⟨rfl, .inr ⟨w.heap.size, 0, #[], rfl, h, heap_alloc_new w _, Nat.le_refl _, Nat.zero_le _, rfl, rfl⟩⟩

set_option maxHeartbeats 4000000 in
theorem readRow_fair (ao bo : Option Addr) (c d : Nat) (ts us : List Rd.Tk) (w : World) (hT : TksAt w.heap.size w ao ts) (hU : TksAt w.heap.size w bo us) (hc : ts.length ≤ c ∧ c ≤ maxLen) (hd : us.length ≤ d ∧ d ≤ maxLen)
    (hm : ∀ t ∈ ts, t.text.size ≤ maxLen) (hm2 : ∀ t ∈ us, t.text.size ≤ maxLen) (h1 : fair ts = true) (h2 : fair us = true) (h3 : ¬ 600 < ts.length + us.length) :
    Calls Try.prog 7 #[.slice ao ts.length c, .slice bo us.length d] w fun e w' => e = .returned (.bool true) ∧ Below w.heap.size w w' := by
  have hl : ts.length ≤ maxLen := Nat.le_trans hc.1 hc.2
  have hl2 : us.length ≤ maxLen := Nat.le_trans hd.1 hd.2
  have HT : Hid (TksAt w.heap.size w ao ts) := hT
  have HU : Hid (TksAt w.heap.size w bo us) := hU
  have HM : Hid _ := hm
  have HM2 : Hid _ := hm2
  have HC : Hid (ts.length ≤ c ∧ c ≤ maxLen) := hc
  have HD : Hid (us.length ≤ d ∧ d ≤ maxLen) := hd
  have HX : Hid (∀ t ∈ ts, t.text.size ≤ 281474976710656) := fair_text h1
  have HX2 : Hid (∀ t ∈ us, t.text.size ≤ 281474976710656) := fair_text h2
  clear hT hU hm hm2 hc hd
  have h3' : (ts.length : Int) + (us.length : Int) ≤ 600 := by omega
  have l1 := fair_len h1
  have l2 := fair_len h2
  obtain ⟨E1, A1, xs, hG1⟩ : ∃ E At xs, Rd.altsG ts 7 = (E, At, xs) := ⟨_, _, _, rfl⟩
  obtain ⟨E2, A2, ys, hG2⟩ : ∃ E At xs, Rd.altsG us 7 = (E, At, xs) := ⟨_, _, _, rfl⟩
  have HG1 : Hid (Rd.altsG ts 7 = (E1, A1, xs)) := hG1
  have HG2 : Hid (Rd.altsG us 7 = (E2, A2, ys)) := hG2
  have s1 := (Rd.altsG_small hG1).1
  have s2 := (Rd.altsG_small hG2).1
  have HS1 : Hid _ := (Rd.altsG_small hG1).2
  have HS2 : Hid _ := (Rd.altsG_small hG2).2
  clear hG1 hG2
  go_enter Try.func7, Try.ntmps7
  go_wp2_with fail
  refine (fair_is _ _ _ _ _ hl HM.out HT.out h1).mono ?_
  rintro e w1 ⟨rfl, rfl⟩
  go_wp2_with fail
  refine (fair_is _ _ _ _ _ hl2 HM2.out HU.out h2).mono ?_
  rintro e w1 ⟨rfl, rfl⟩
  go_wp2_with fail
  refine (alts_is ao c ts 7 _ _ _ _ (by omega) HX.out HC.out HT.out HG1).mono ?_
  rintro e w1 ⟨xo, xc, rfl, hb1, ha1⟩
  have hb1a : Hid (Below w.heap.size w (w1.alloc (Obj.cells #[Value.int IntKind.i64 E1, Value.int IntKind.i64 A1] 28))) := hb1.out.alloc hb1.out.size _
  go_wp2_with fail
  refine (alts_is bo d us 7 _ _ _ _ (by omega) HX2.out HD.out (HU.out.later hb1a.out).size HG2).mono ?_
  rintro e w2 ⟨yo, yc, rfl, hb2, ha2⟩
  have hb2a : Hid (Below w.heap.size w w2) := hb1a.out.trans (hb2.out.mono hb1a.out.size)
  have e0 : w2.cell? ⟨w1.heap.size, 0, none⟩ = some (.int .i64 E1) := (hb2.out.cell (by simp)).trans (by simp [go_sem])
  have z2 : w1.heap.size < w2.heap.size := by have := hb2.out.size; simp at this; omega
  by_cases hE1 : E1 = 0
  · subst hE1
    by_cases hu : us.length = 0
    · have hu' : ((us.length : Int) == 0) = true := by simp [hu]
      go_wp2_with (first | (go_at_call 10; refine (rwakes_any _).mono ?_; rintro e w3 ⟨rfl, hb3⟩))
      go_ret
      have := hb2a.out.alloc hb2a.out.size (Obj.cells #[Value.int IntKind.i64 E2, Value.int IntKind.i64 A2] 28)
      exact ⟨rfl, this.trans (hb3.mono this.size)⟩
    · have hu' : ((us.length : Int) == 0) = false := beq_eq_false_iff_ne.2 (by omega)
      have hrun : Rd.run ⟨[], .start⟩ ts = .ok ⟨xs, .start⟩ ∧ xs ≠ [] := by
        rcases Rd.altsG_cases ts 7 with ⟨l, _, h2, h3, h4⟩ | ⟨e, _, h2, h3⟩
        · rw [HG1.out] at h2; cases h2; exact ⟨h3, h4⟩
        · rw [HG1.out] at h2; simp only [Prod.mk.injEq] at h2; omega
      have ht0 : 0 < ts.length := by
        rcases Nat.eq_zero_or_pos ts.length with h | h
        · have : ts = [] := List.eq_nil_of_length_eq_zero h
          subst this
          have := hrun.1
          rw [Rd.run] at this
          cases this
          exact absurd rfl hrun.2
        · exact h
      have hu0 : 0 < us.length := by omega
      obtain ⟨b, o, rfl, hbw, hjk, hjl⟩ := HT.out 0 ht0
      obtain ⟨b', o', rfl, hbw', hjk', hjl'⟩ := HU.out 0 hu0
      clear hjk hjk' hjl hjl'
      obtain ⟨i0, hi, hz0, hz1, hz2⟩ := info_parts Try.infoTk
      have HI : Hid (Try.prog.info? 38 = some i0 ∧ i0.zero = some (.agg #[.int .i64 0, .string ⟨#[]⟩, .int .i64 0]) ∧ i0.size = 3 ∧ i0.bytes = 32) := ⟨hi, hz0, hz1, hz2⟩
      clear hi hz0 hz1 hz2
      obtain ⟨E3, A3, zs, hG3⟩ : ∃ E At xs, Rd.altsG (ts ++ us) 7 = (E, At, xs) := ⟨_, _, _, rfl⟩
      have HG3 : Hid (Rd.altsG (ts ++ us) 7 = (E3, A3, zs)) := hG3
      have hm0 : us ≠ [] := by intro e; rw [e] at hu0; simp at hu0
      have hap := Rd.alts_append (en := 7) hrun.1 hrun.2 hm0
      have s3 := (Rd.altsG_small hG3).1
      have HS3 : Hid _ := (Rd.altsG_small hG3).2
      -- what the three have to do with each other
      have K : (E2 = 0 ∧ E3 = 0 ∧ A3 = 0 ∧ zs = xs ++ ys) ∨ (E2 = 0 ∧ E3 = 14 ∧ 60 < xs.length + ys.length ∧ zs = []) ∨ (E2 ≠ 0 ∧ E3 = E2 ∧ A3 = A2 ∧ zs = [] ∧ ys = []) ∨ (E2 ≠ 0 ∧ E3 = 14 ∧ zs = [] ∧ ys = []) := by
        rcases Rd.altsG_cases us 7 with ⟨l, q1, q2, _, _⟩ | ⟨e, q1, q2, q3⟩
        · rw [HG2.out] at q2; cases q2
          rcases hap.1 _ q1 with r | ⟨⟨p, r⟩, r2⟩
          · rw [Rd.altsG_ok r] at hG3; cases hG3; exact .inl ⟨rfl, rfl, rfl, rfl⟩
          · rw [Rd.altsG_err r] at hG3; cases hG3; exact .inr (.inl ⟨rfl, rfl, r2, rfl⟩)
        · rw [HG2.out] at q2
          simp only [Prod.mk.injEq] at q2
          obtain ⟨rfl, rfl, rfl⟩ := q2
          rcases hap.2 _ q1 with r | ⟨p, r⟩
          · rw [Rd.altsG_err r] at hG3; cases hG3; exact .inr (.inr (.inl ⟨by omega, rfl, rfl, rfl, rfl⟩))
          · rw [Rd.altsG_err r] at hG3; cases hG3; exact .inr (.inr (.inr ⟨by omega, rfl, rfl, rfl⟩))
      have KK : Hid _ := K
      clear K hap hG3 hrun hm0
      go_wp2_with (at_builtin; refine wpList_append_lies _ rfl _ _ 22 rfl (w2.heap.size + 1) 38 i0 (.agg #[.int .i64 0, .string ⟨#[]⟩, .int .i64 0]) 3 32 Try.underlying22 HI.out.1 HI.out.2.1 HI.out.2.2.1 HI.out.2.2.2 rfl (by decide) (.slice (some ⟨w2.heap.size + 1, 0, none⟩) 0 0) 0 [] rfl ?c0 ⟨b, o, none⟩ ts.length c (tksCells ts) rfl ?c1 ?c2 ?c3 ?c4 ?c5 ?c6 ?c7 (w2.heap.size + 2) ?c8 ?_)
      case c0 =>
        have := empty_row (w2.alloc (Obj.cells #[Value.int IntKind.i64 E2, Value.int IntKind.i64 A2] 28)) (w2.heap.size + 1) (by simp)
        simpa using this
      case c1 => exact tksCells_length ts
      case c2 => exact ((HT.out.later hb2a.out).later ((((Below.refl _ w2).alloc (Nat.le_refl _) _).alloc (by simp) _).mono hb2a.out.size)).cells
      case c3 => exact tksCells_one ts
      case c4 => exact ht0
      case c5 => unfold maxLen; omega
      case c6 => omega
      case c7 => simp
      case c8 => simp
      intro g1 cap1 w3 hown1 hgrow1 hat1 hlt1
      have hown1' : w3.ownsRow (w2.heap.size + 1) 38 3 (.slice (some ⟨g1, 0, none⟩) ts.length cap1) ts.length (tksCells ts) := by simpa using hown1
      have HB3 : Hid (Below w2.heap.size w2 w3) := (((Below.refl _ w2).alloc (Nat.le_refl _) (Obj.cells #[Value.int IntKind.i64 E2, Value.int IntKind.i64 A2] 28)).alloc (by simp) (Obj.cells #[] 38)).grown hgrow1 (by simp; omega) (fun k hk => by simp [Value.ownBlock] at hk; omega)
      have HF3 : Hid (w3.heap[w2.heap.size]? = some (.cells #[.int .i64 E2, .int .i64 A2] 28 (0, 0))) := by
        show _ = _
        rw [hgrow1.block _ (by simp; omega) (by simp [Value.ownBlock]), Below.heap_alloc _ _ _ (by simp)]
        exact heap_alloc_new w2 _
      have HO1 : Hid (w3.ownsRow (w2.heap.size + 1) 38 3 (.slice (some ⟨g1, 0, none⟩) ts.length cap1) ts.length (tksCells ts)) := hown1'
      have hs3 : w2.heap.size + 2 ≤ w3.heap.size := by have := hgrow1.size; simp at this; omega
      clear hown1 hown1' hgrow1 hat1
      go_wp2_with (at_builtin; refine wpList_append_lies _ rfl _ _ 22 rfl (w2.heap.size + 1) 38 i0 (.agg #[.int .i64 0, .string ⟨#[]⟩, .int .i64 0]) 3 32 Try.underlying22 HI.out.1 HI.out.2.1 HI.out.2.2.1 HI.out.2.2.2 rfl (by decide) (.slice (some ⟨g1, 0, none⟩) ts.length cap1) ts.length (tksCells ts) rfl HO1.out ⟨b', o', none⟩ us.length d (tksCells us) rfl ?c1 ?c2 ?c3 ?c4 ?c5 ?c6 ?c7 w3.heap.size ?c8 ?_)
      case c1 => exact tksCells_length us
      case c2 => exact ((HU.out.later hb2a.out).later (HB3.out.mono hb2a.out.size)).cells
      case c3 => exact tksCells_one us
      case c4 => exact hu0
      case c5 => unfold maxLen; omega
      case c6 => omega
      case c7 => omega
      case c8 => rfl
      intro g2 cap2 w4 hown2 hgrow2 hat2 hlt2
      have hl3 : (ts ++ us).length = ts.length + us.length := List.length_append
      have HB4 : Hid (Below w2.heap.size w2 w4) := HB3.out.grown hgrow2 HB3.out.size (fun k hk => by have := (HO1.out.lt k hk).1; omega)
      have HO2 : Hid (w4.ownsRow (w2.heap.size + 1) 38 3 (.slice (some ⟨g2, 0, none⟩) (ts ++ us).length cap2) (ts ++ us).length (tksCells (ts ++ us))) := by
        show World.ownsRow _ _ _ _ _ _ _
        rw [hl3, tksCells_append]; exact hown2
      have HF4 : Hid (w4.heap[w2.heap.size]? = some (.cells #[.int .i64 E2, .int .i64 A2] 28 (0, 0))) := by
        show _ = _
        rw [hgrow2.block _ (by omega) (fun e => by have := (HO1.out.lt _ e.symm).1; omega)]
        exact HF3.out
      have hs4 : w3.heap.size ≤ w4.heap.size := hgrow2.size
      clear hown2 hgrow2 hat2 HO1 HB3 HF3
      obtain ⟨oo, oc, hov, hot, hoc1, hoc2, _⟩ := tks_read HO2.out
      cases hov
      have HOT : Hid (TksAt w4.heap.size w4 (some ⟨g2, 0, none⟩) (ts ++ us)) := hot
      have HXX : Hid (∀ t ∈ ts ++ us, t.text.size ≤ 281474976710656) := fun t ht => by
        rcases List.mem_append.1 ht with h | h
        · exact HX.out t h
        · exact HX2.out t h
      clear hot
      go_wp2_with fail
      have hC4 := alts_is (some ⟨g2, 0, none⟩) cap2 (ts ++ us) 7 _ _ _ w4 (by omega) HXX.out ⟨hoc1, hoc2⟩ HOT.out HG3
      rw [hl3] at hC4
      refine hC4.mono ?_
      clear hC4
      rintro e w5 ⟨zo, zc, rfl, hb5, ha5⟩
      have hb5a : Hid (Below w.heap.size w w5) := (hb2a.out.trans (HB4.out.mono hb2a.out.size)).trans (hb5.out.mono (Nat.le_trans hb2a.out.size HB4.out.size))
      have HB25 : Hid (Below w2.heap.size w2 w5) := HB4.out.trans (hb5.out.mono HB4.out.size)
      have e1 : w5.cell? ⟨w1.heap.size, 0, none⟩ = some (.int .i64 0) := cell_later HB25.out e0
      have hf5 : w5.heap[w2.heap.size]? = some (.cells #[.int .i64 E2, .int .i64 A2] 28 (0, 0)) := by
        rw [hb5.out.block _ (by omega)]; exact HF4.out
      have f0 : w5.cell? ⟨w2.heap.size, 0, none⟩ = some (.int .i64 E2) := by simp [World.cell?, hf5]
      have f1 : w5.cell? ⟨w2.heap.size, 1, none⟩ = some (.int .i64 A2) := by simp [World.cell?, hf5]
      have hs5 : w4.heap.size ≤ w5.heap.size := hb5.out.size
      have z3 : w2.heap.size < w5.heap.size := by omega
      have z4 : w1.heap.size < w5.heap.size := by omega
      clear hf5 HOT HO2 HF4 e0
      have fin : Hid (∀ (o : Obj) (w6 : World), Below (w5.alloc o).heap.size (w5.alloc o) w6 → Below w.heap.size w w6) := fun o w6 hb => (hb5a.out.alloc hb5a.out.size o).trans (hb.mono (hb5a.out.alloc hb5a.out.size o).size)
      rcases KK.out with ⟨rfl, rfl, rfl, rfl⟩ | ⟨rfl, rfl, k3, rfl⟩ | ⟨k1, rfl, rfl, rfl, rfl⟩ | ⟨k1, rfl, rfl, rfl⟩
      · by_cases h60 : 60 ≤ xs.length
        · have h60' : (60 : Int) ≤ (xs.length : Int) := by omega
          go_wp2_with (first | (go_at_call 10; refine (rwakes_any _).mono ?_; rintro e w6 ⟨rfl, hb6⟩))
          go_ret
          exact ⟨rfl, fin.out _ _ hb6⟩
        · have h60' : ¬ (60 : Int) ≤ (xs.length : Int) := by omega
          have h60d : decide ((60 : Int) ≤ (xs.length : Int)) = false := by simp; omega
          have HB15 : Hid (Below w1.heap.size w1 w5) := (((Below.refl _ w1).alloc (Nat.le_refl _) (Obj.cells #[Value.int IntKind.i64 0, Value.int IntKind.i64 A1] 28)).trans (hb2.out.mono (by simp))).trans (HB25.out.mono (Nat.le_of_lt z2))
          have ha1' : AlsAt w.heap.size w5 (.slice xo xs.length xc) xs := ha1.out.below HB15.out
          have ha2' : AlsAt w.heap.size w5 (.slice yo ys.length yc) ys := (ha2.out.below HB25.out).from hb1a.out.size
          have hx0 : 0 < xs.length := by
            rcases Rd.altsG_cases ts 7 with ⟨l, _, h2, h3, h4⟩ | ⟨e, _, h2, h3⟩
            · rw [HG1.out] at h2; cases h2; exact List.length_pos_iff.2 h4
            · rw [HG1.out] at h2; simp only [Prod.mk.injEq] at h2; omega
          have hy0 : 0 < ys.length := by
            rcases Rd.altsG_cases us 7 with ⟨l, _, h2, h3, h4⟩ | ⟨e, _, h2, h3⟩
            · rw [HG2.out] at h2; cases h2; exact List.length_pos_iff.2 h4
            · rw [HG2.out] at h2; simp only [Prod.mk.injEq] at h2; omega
          obtain ⟨gx, _, _, rfl, _⟩ := ha1'.right 0 hx0
          obtain ⟨gy, _, _, rfl, _⟩ := ha2'.right 0 hy0
          obtain ⟨ps, hp1, hp2, hp3⟩ := ha1'
          obtain ⟨qs, hq1, hq2, hq3⟩ := ha2'
          have hpl : ps.length = xs.length := by rw [← hp1, List.length_map]
          have hql : qs.length = ys.length := by rw [← hq1, List.length_map]
          rw [hpl] at hp2
          rw [hql] at hq2
          have HP1 : Hid _ := hp1
          have HP2 : Hid (w5.ownsRow w.heap.size 40 4 (.slice (some ⟨gx, 0, none⟩) xs.length xc) xs.length (alsCells ps)) := hp2
          have HP3 : Hid (∀ p ∈ ps, w5.ownsRow w.heap.size 38 3 p.2 p.1.2.length (tksCells p.1.2)) := hp3
          have HQ1 : Hid _ := hq1
          have HQ2 : Hid (w5.ownsRow w.heap.size 40 4 (.slice (some ⟨gy, 0, none⟩) ys.length yc) ys.length (alsCells qs)) := hq2
          have HQ3 : Hid (∀ p ∈ qs, w5.ownsRow w.heap.size 38 3 p.2 p.1.2.length (tksCells p.1.2)) := hq3
          have HPL : Hid (ps.length = xs.length) := hpl
          have HQL : Hid (qs.length = ys.length) := hql
          clear hp1 hp2 hp3 hq1 hq2 hq3 hpl hql
          go_wp2_with (at_builtin; refine wpList_append_als (by rfl) _ _ rfl (w5.heap.size + 1) (.slice (some ⟨w5.heap.size + 1, 0, none⟩) 0 0) 0 [] rfl ?c0 ⟨gx, 0, none⟩ xs.length xc (alsCells ps) rfl ?c1 ?c2 ?c3 ?c4 ?c5 ?c6 ?_)
          case c0 =>
            have := empty_arow (w5.alloc (Obj.cells #[Value.int IntKind.i64 0, Value.int IntKind.i64 0] 28)) (w5.heap.size + 1) (by simp)
            simpa using this
          case c1 => rw [alsCells_length, HPL.out]
          case c2 => exact ((HP2.out.alloc _).alloc _).cells rfl
          case c3 => exact alsCells_one HP3.out
          case c4 => exact hx0
          case c5 => omega
          case c6 => simp
          intro g3 cap3 w6 hown3 hgrow3
          have HO3 : Hid (w6.ownsRow (w5.heap.size + 1) 40 4 (.slice (some ⟨g3, 0, none⟩) xs.length cap3) xs.length (alsCells ps)) := by
            show World.ownsRow _ _ _ _ _ _ _
            simpa using hown3
          have HB6 : Hid (Below w5.heap.size w5 w6) := (((Below.refl _ w5).alloc (Nat.le_refl _) (Obj.cells #[Value.int IntKind.i64 0, Value.int IntKind.i64 0] 28)).alloc (by simp) (Obj.cells #[] 40)).grown hgrow3 (by simp; omega) (fun k hk => by simp [Value.ownBlock] at hk; omega)
          have hs6 : w5.heap.size + 2 ≤ w6.heap.size := by have := hgrow3.size; simp at this; omega
          clear hown3 hgrow3
          go_wp2_with (at_builtin; refine wpList_append_als (by rfl) _ _ rfl (w5.heap.size + 1) (.slice (some ⟨g3, 0, none⟩) xs.length cap3) xs.length (alsCells ps) rfl HO3.out ⟨gy, 0, none⟩ ys.length yc (alsCells qs) rfl ?c1 ?c2 ?c3 ?c4 ?c5 ?c6 ?_)
          case c1 => rw [alsCells_length, HQL.out]
          case c2 => exact (ownsRow_below HQ2.out HB6.out).cells rfl
          case c3 => exact alsCells_one HQ3.out
          case c4 => exact hy0
          case c5 => omega
          case c6 => omega
          intro g4 cap4 w7 hown4 hgrow4
          have HB7 : Hid (Below w5.heap.size w5 w7) := HB6.out.grown hgrow4 HB6.out.size (fun k hk => by have := (HO3.out.lt k hk).1; omega)
          have hlen : (xs ++ ys).length = xs.length + ys.length := List.length_append
          have HA7 : Hid (AlsAt w.heap.size w7 (.slice (some ⟨g4, 0, none⟩) (xs ++ ys).length cap4) (xs ++ ys)) := by
            refine ⟨ps ++ qs, by rw [List.map_append, HP1.out, HQ1.out], ?_, fun p hp => ?_⟩
            · rw [show (ps ++ qs).length = xs.length + ys.length from by rw [List.length_append, HPL.out, HQL.out], alsCells_append, hlen]
              exact ownsRow_from hown4 (Nat.le_trans hb5a.out.size (Nat.le_succ _))
            · rcases List.mem_append.1 hp with hp | hp
              · exact ownsRow_below (HP3.out p hp) HB7.out
              · exact ownsRow_below (HQ3.out p hp) HB7.out
          have HZ7 : Hid (AlsAt w4.heap.size w7 (.slice zo (xs ++ ys).length zc) (xs ++ ys)) := ha5.out.below HB7.out
          have hK := keepAlts_same (xs ++ ys) (by omega) (fun x hx => Nat.le_trans (HS3.out x hx) (by decide)) zo (some ⟨g4, 0, none⟩) zc cap4 w4.heap.size w.heap.size w7 HZ7.out HA7.out
          rw [hlen] at hK
          clear hown4 hgrow4
          go_wp2_with (first | (go_at_call 13; refine hK.mono ?_; rintro e w8 ⟨rfl, n8, rfl⟩) | (go_at_call 10; refine (rwakes_any _).mono ?_; rintro e w9 ⟨rfl, hb9⟩))
          go_ret
          have hb7a : Below w.heap.size w (w7.drewN n8) := below_drewN (hb5a.out.trans (HB7.out.mono hb5a.out.size)) n8
          exact ⟨rfl, hb7a.trans (hb9.mono hb7a.size)⟩
      · have k3' : (60 : Int) < (xs.length : Int) + (ys.length : Int) := by omega
        go_wp2_with (first | (go_at_call 10; refine (rwakes_any _).mono ?_; rintro e w6 ⟨rfl, hb6⟩))
        go_ret
        exact ⟨rfl, fin.out _ _ hb6⟩
      · by_cases h60 : 60 ≤ xs.length
        · have h60' : (60 : Int) ≤ (xs.length : Int) := by omega
          go_wp2_with (first | (go_at_call 10; refine (rwakes_any _).mono ?_; rintro e w6 ⟨rfl, hb6⟩))
          all_goals go_ret
          all_goals exact ⟨rfl, fin.out _ _ hb6⟩
        · have h60d : decide ((60 : Int) ≤ (xs.length : Int)) = false := by simp; omega
          have hxs : ¬ (60 : Int) < (xs.length : Int) := by omega
          have hxs2 : decide ((60 : Int) < (xs.length : Int)) = false := by simp; omega
          have hne : (E3 != 0) = true := by simp [k1]
          go_wp2_with (first | (go_at_call 10; refine (rwakes_any _).mono ?_; rintro e w6 ⟨rfl, hb6⟩))
          all_goals go_ret
          all_goals exact ⟨rfl, fin.out _ _ hb6⟩
      · by_cases h60 : 60 ≤ xs.length
        · have h60' : (60 : Int) ≤ (xs.length : Int) := by omega
          go_wp2_with (first | (go_at_call 10; refine (rwakes_any _).mono ?_; rintro e w6 ⟨rfl, hb6⟩))
          all_goals go_ret
          all_goals exact ⟨rfl, fin.out _ _ hb6⟩
        · have h60d : decide ((60 : Int) ≤ (xs.length : Int)) = false := by simp; omega
          have hxs : ¬ (60 : Int) < (xs.length : Int) := by omega
          have hxs2 : decide ((60 : Int) < (xs.length : Int)) = false := by simp; omega
          have hne : (E2 != 0) = true := by simp [k1]
          go_wp2_with (first | (go_at_call 10; refine (rwakes_any _).mono ?_; rintro e w6 ⟨rfl, hb6⟩))
          all_goals go_ret
          all_goals exact ⟨rfl, fin.out _ _ hb6⟩
  · have hne : (E1 != 0) = true := by simp [hE1]
    go_wp2_with (first | (go_at_call 10; refine (rwakes_any _).mono ?_; rintro e w3 ⟨rfl, hb3⟩))
    go_ret
    have := hb2a.out.alloc hb2a.out.size (Obj.cells #[Value.int IntKind.i64 E2, Value.int IntKind.i64 A2] 28)
    exact ⟨rfl, this.trans (hb3.mono this.size)⟩

theorem readRow_walk (ao : Option Addr) (c : Nat) (ts : List Rd.Tk) (bo : Option Addr) (d : Nat) (us : List Rd.Tk) (w : World) (hT : TksAt w.heap.size w ao ts) (hc : ts.length ≤ c ∧ c ≤ maxLen) (hm : ∀ t ∈ ts, t.text.size ≤ maxLen)
    (hU : TksAt w.heap.size w bo us) (hd : us.length ≤ d ∧ d ≤ maxLen) (hm2 : ∀ t ∈ us, t.text.size ≤ maxLen) :
    Calls Try.prog 7 #[.slice ao ts.length c, .slice bo us.length d] w fun e w' => e = .returned (.bool true) ∧ Below w.heap.size w w' := by
  cases h1 : fair ts
  · exact readRow_unfair ao bo c d ts us w hT hU (Nat.le_trans hc.1 hc.2) (Nat.le_trans hd.1 hd.2) hm hm2 (.inl h1)
  · cases h2 : fair us
    · exact readRow_unfair ao bo c d ts us w hT hU (Nat.le_trans hc.1 hc.2) (Nat.le_trans hd.1 hd.2) hm hm2 (.inr (.inl ⟨h1, h2⟩))
    · by_cases h3 : 600 < ts.length + us.length
      · exact readRow_unfair ao bo c d ts us w hT hU (Nat.le_trans hc.1 hc.2) (Nat.le_trans hd.1 hd.2) hm hm2 (.inr (.inr ⟨h1, h2, h3⟩))
      · exact readRow_fair ao bo c d ts us w hT hU hc hd hm hm2 h1 h2 h3
end Go.Proofs.Ytjcgnablfhkmoaa
