/-
  The law ReadStops, walked, where the place is not the end of the room.
-/
import Derived.Test.YtnbniaijholimaaReadStopsBase
namespace Go.Proofs.Ytnbniaijholimaa
open Go.RowKit

set_option maxRecDepth 100000 in
set_option maxHeartbeats 40000000 in
theorem readStops_ne (ao : Option Addr) (c : Nat) (ts : List Rd.Tk) (x : Rd.Tk) (n : Int) (w : World) (hT : TksAt w.heap.size w ao ts) (hc : ts.length ≤ c ∧ c ≤ maxLen) (hm : ∀ t ∈ ts, t.text.size ≤ maxLen)
    (hn0 : 0 ≤ n) (hn1 : n ≤ 255) (h1 : fair ts = true) (h2 : x.text.size ≤ 500) (h3 : x.kind ≠ 1) (h4 : ts.length ≠ 0) (hst : ¬ c = stopAt ts n.toNat) :
    Calls Try.prog 3 #[.slice ao ts.length c, .agg #[.int .i64 x.kind, .string x.text, .int .i64 x.pos], .int .u8 n] w fun e w' => e = .returned (.bool true) ∧ Below w.heap.size w w' := by
  have HST : Hid _ := hst
  clear hst
  have hlm : ts.length ≤ maxLen := Nat.le_trans hc.1 hc.2
  have HT : Hid (TksAt w.heap.size w ao ts) := hT
  have HM : Hid (∀ t ∈ ts, t.text.size ≤ maxLen) := hm
  have HC : Hid (ts.length ≤ c ∧ c ≤ maxLen) := hc
  have hcm := hc.2
  have hcl := hc.1
  unfold maxLen at hcm
  have HX : Hid (∀ t ∈ ts, t.text.size ≤ 281474976710656) := fair_text h1
  have h7 := fair_len h1
  clear hT hc hm
  obtain ⟨m, rfl⟩ := Int.eq_ofNat_of_zero_le hn0
  rw [Int.toNat_natCast] at HST
  have hm255 : m ≤ 255 := by omega
  clear hn0 hn1
  have ht0 : 0 < ts.length := by omega
  obtain ⟨b, o, rfl, hbw_, hjk, hjl⟩ := HT.out 0 ht0
  clear hjk hjl
  obtain ⟨E, At, xs, hG⟩ : ∃ E At xs, Rd.altsG ts 7 = (E, At, xs) := ⟨_, _, _, rfl⟩
  have HG : Hid (Rd.altsG ts 7 = (E, At, xs)) := hG
  have s1 := (Rd.altsG_small hG).1
  obtain ⟨xk, xx, xp⟩ := x
  simp only at h2 h3 ⊢
  have h2d : decide ((500 : Int) < (xx.size : Int)) = false := by simp; omega
  have h3d : (xk == 1) = false := by simp [h3]
  have h4d : ((ts.length : Int) == 0) = false := beq_eq_false_iff_ne.2 (by omega)
  have H3 : Hid (xk ≠ 1) := h3
  clear h3
  have HB : Hid (Below w.heap.size w (w.alloc (Obj.cells #[Value.int IntKind.i64 xk, Value.string xx, Value.int IntKind.i64 xp] 24))) := (Below.refl _ w).alloc (Nat.le_refl _) _
  have HT' : Hid (∀ _ : Unit, _) := fun _ => fair_is true (some ⟨b, o, none⟩) c ts (w.alloc (Obj.cells #[Value.int IntKind.i64 xk, Value.string xx, Value.int IntKind.i64 xp] 24)) hlm HM.out (HT.out.later HB.out).size h1
  rcases Rd.altsG_cases ts 7 with ⟨l, hjk, q2, q3, q4⟩ | ⟨e, hjk, q2, q3⟩ <;> clear hjk
  · rw [hG] at q2
    cases q2
    have HRUN : Hid (Rd.run ⟨[], .start⟩ ts = .ok ⟨xs, .start⟩) := q3
    clear q3 q4 hG
    go_enter Try.func3, Try.ntmps3
    go_wp2_with (first | (go_at_call 9; refine (HT'.out ()).mono ?_; rintro e w1 ⟨rfl, rfl⟩))
    refine (alts_is (some ⟨b, o, none⟩) c ts 7 _ _ _ _ (by omega) HX.out HC.out (HT.out.later HB.out).size HG).mono ?_
    rintro e w1 ⟨xo, xc, rfl, hb1, ha1⟩
    have x0 : w1.cell? ⟨w.heap.size, 0, none⟩ = some (.int .i64 xk) := (hb1.out.cell (by simp)).trans (by simp [go_sem])
    have x1 : w1.cell? ⟨w.heap.size, 1, none⟩ = some (.string xx) := (hb1.out.cell (by simp)).trans (by simp [go_sem])
    have x2 : w1.cell? ⟨w.heap.size, 2, none⟩ = some (.int .i64 xp) := (hb1.out.cell (by simp)).trans (by simp [go_sem])
    have z1 : w.heap.size < w1.heap.size := by have := hb1.out.size; simp at this; omega
    have HB1 : Hid (Below w.heap.size w w1) := HB.out.trans (hb1.out.mono HB.out.size)
    clear hb1 ha1 HT' HB
    go_wp2_with fail
    have HO0 : Hid (((w1.alloc (Obj.cells #[Value.int IntKind.i64 0, Value.int IntKind.i64 0] 30)).alloc (Obj.cells #[Value.int IntKind.i64 0] 3)).ownsRow (w1.heap.size + 1) 3 1 (.slice (some ⟨w1.heap.size + 1, 0, none⟩) 1 1) 1 (natCells (0 :: tl ts 0))) := by
      refine ⟨rfl, .inr ⟨w1.heap.size + 1, 1, #[.int .i64 0], rfl, Nat.le_refl _, ?_, Nat.le_refl _, by unfold maxLen; decide, rfl, rfl⟩⟩
      have := heap_alloc_new (w1.alloc (Obj.cells #[Value.int IntKind.i64 0, Value.int IntKind.i64 0] 30)) (Obj.cells #[Value.int IntKind.i64 0] 3)
      simpa using this
    have HB2 : Hid (Below w1.heap.size w1 ((w1.alloc (Obj.cells #[Value.int IntKind.i64 0, Value.int IntKind.i64 0] 30)).alloc (Obj.cells #[Value.int IntKind.i64 0] 3))) := ((Below.refl _ w1).alloc (Nat.le_refl _) _).alloc (by simp) _
    have hz2 : w1.heap.size + 1 < ((w1.alloc (Obj.cells #[Value.int IntKind.i64 0, Value.int IntKind.i64 0] 30)).alloc (Obj.cells #[Value.int IntKind.i64 0] 3)).heap.size := by simp
    generalize ((w1.alloc (Obj.cells #[Value.int IntKind.i64 0, Value.int IntKind.i64 0] 30)).alloc (Obj.cells #[Value.int IntKind.i64 0] 3)) = W2 at *
    go_loopw [9, 10] (fun bv i wr => ∃ (k g cap : Nat), k ≤ ts.length ∧ i = .int .i64 k ∧ bv = .slice (some ⟨g, 0, none⟩) ((tl ts k).length + 1) cap ∧ w1.heap.size + 1 < wr.heap.size ∧ Hid (Below w1.heap.size w1 wr) ∧
        Hid (wr.ownsRow (w1.heap.size + 1) 3 1 (.slice (some ⟨g, 0, none⟩) ((tl ts k).length + 1) cap) ((tl ts k).length + 1) (natCells (0 :: tl ts k)))) (fun _ i _ => ts.length - (intOf i).toNat)
    case atStart => exact ⟨0, w1.heap.size + 1, 1, Nat.zero_le _, rfl, rfl, hz2, HB2, HO0⟩
    case round =>
      obtain ⟨k, g, cap, hk, rfl, rfl, hzr, hbr, hown⟩ := hrel
      clear HO0 HB2 hz2
      have hbw : Hid (Below w.heap.size w wr) := HB1.out.trans (hbr.out.mono (Nat.le_of_lt z1))
      by_cases hlt : k < ts.length
      · obtain ⟨b', o', hbo, hj1, hj2, a0, a1, a2⟩ := (HT.out.later hbw.out) k hlt
        cases hbo
        clear hj1 hj2
        have HD : Hid (ts.getD k ⟨0, ⟨#[]⟩, 0⟩ = ts[k]) := getD_get ts k hlt
        have hlen := tl_len ts k
        by_cases h5 : ts[k].kind = 5
        · have HT5 : Hid (tl ts (k + 1) = tl ts k ++ [k + 1]) := by show _ = _; rw [tl, HD.out, if_pos h5]
          rw [h5] at a0
          clear h5
          generalize ts[k] = y at *
          obtain ⟨yk, yx, yp⟩ := y
          simp only at a0 a1 a2
          go_wp2_with (at_builtin; refine wpList_append_int (by rfl) _ _ rfl (w1.heap.size + 1) (.slice (some ⟨g, 0, none⟩) ((tl ts k).length + 1) cap) ((tl ts k).length + 1) (natCells (0 :: tl ts k)) rfl (hown.out.alloc _) ⟨wr.heap.size, 0, none⟩ 1 (.int .i64 ((k : Int) + 1)) rfl ?c1 rfl ?c2 ?c3 ?_)
          case c1 => exact cell_one_new _ _ _
          case c2 => omega
          case c3 => simp; omega
          intro g3 cap3 w3 hown3 hgrow3
          have HO3 : Hid (w3.ownsRow (w1.heap.size + 1) 3 1 (.slice (some ⟨g3, 0, none⟩) ((tl ts (k + 1)).length + 1) cap3) ((tl ts (k + 1)).length + 1) (natCells (0 :: tl ts (k + 1)))) := by
            show World.ownsRow _ _ _ _ _ _ _
            rw [HT5.out, List.length_append, List.length_singleton]
            have e : natCells (0 :: (tl ts k ++ [k + 1])) = natCells (0 :: tl ts k) ++ [.int .i64 ((k : Int) + 1)] := by simp [natCells]
            rw [e]; exact hown3
          have HL3 : Hid ((tl ts (k + 1)).length = (tl ts k).length + 1) := by show _ = _; rw [HT5.out, List.length_append, List.length_singleton]
          have HB3 : Hid (Below w1.heap.size w1 w3) := (hbr.out.alloc hbr.out.size _).grown hgrow3 (by simp; omega) (fun q hq => by have := (hown.out.lt q hq).1; omega)
          have hz3 : w1.heap.size + 1 < w3.heap.size := by have := hgrow3.size; simp at this; omega
          clear hown3 hgrow3 hown hbr
          go_wp2_with fail
          go_roundw
          case rel => exact ⟨k + 1, g3, cap3, by omega, by go_num, by rw [HL3.out], hz3, HB3, HO3⟩
          case measure => simp [intOf]; omega
        · have HT5 : Hid (tl ts (k + 1) = tl ts k) := by show _ = _; rw [tl, HD.out, if_neg h5, List.append_nil]
          generalize ts[k] = y at *
          obtain ⟨yk, yx, yp⟩ := y
          simp only at a0 a1 a2 h5
          have h5d : (yk == 5) = false := by simp [h5]
          clear h5
          go_wp2_with fail
          go_roundw
          case rel => exact ⟨k + 1, g, cap, by omega, by go_num, by rw [HT5.out], hzr, hbr, by rw [HT5.out]; exact hown⟩
          case measure => simp [intOf]; omega
      · have e : k = ts.length := by omega
        subst e
        clear hlt
        have hL := tl_len ts ts.length
        have HMEM : Hid (∀ q, q ∈ tl ts ts.length ↔ ∃ i, i < ts.length ∧ i + 1 = q ∧ (ts.getD i ⟨0, ⟨#[]⟩, 0⟩).kind = 5) := tl_mem ts ts.length
        have HKO : Hid (stopAt ts m = (0 :: tl ts ts.length).getD (m % ((tl ts ts.length).length + 1)) 0) := by show _ = _; rfl
        generalize tl ts ts.length = bs at *
        obtain ⟨K, kc, hK, hKs⟩ : ∃ K : Nat, wr.cell? ⟨g, m % (bs.length + 1), none⟩ = some (.int .i64 K) ∧ (K = 0 ∨ ∃ i, ∃ hi : i < ts.length, i + 1 = K ∧ ts[i].kind = 5) ∧ K = stopAt ts m := by
          have hlt : m % (bs.length + 1) < (0 :: bs).length := by rw [List.length_cons]; exact Nat.mod_lt _ (by omega)
          refine ⟨(0 :: bs)[m % (bs.length + 1)], ?_, ?_, by rw [HKO.out, getD_nat _ _ _ hlt]⟩
          · have := hown.out.cells (g := g) rfl (m % (bs.length + 1)) (.int .i64 ((0 :: bs)[m % (bs.length + 1)] : Nat)) (by simp only [natCells, List.getElem?_map, List.getElem?_eq_getElem hlt]; rfl)
            rwa [addr_zero_add] at this
          · have hin := List.getElem_mem hlt
            rcases List.mem_cons.1 hin with h | h
            · exact .inl h
            · obtain ⟨i, hi, e, h5⟩ := (HMEM.out _).1 h
              rw [getD_get ts i hi] at h5
              exact .inr ⟨i, hi, e, h5⟩
        have HKs : Hid (K = stopAt ts m) := hKs
        clear hKs
        have hKl : K ≤ ts.length := by rcases hK with rfl | ⟨i, hi, rfl, _⟩ <;> omega
        have HK : Hid (K = 0 ∨ ∃ i, ∃ hi : i < ts.length, i + 1 = K ∧ ts[i].kind = 5) := hK
        clear hK
        have hmod : (0 : Int) ≤ (m : Int) % ((bs.length : Int) + 1) ∧ (m : Int) % ((bs.length : Int) + 1) < (bs.length : Int) + 1 := ⟨Int.emod_nonneg _ (by omega), Int.emod_lt_of_pos _ (by omega)⟩
        have k0 : (0 : Int) ≤ (K : Int) := by omega
        have k1 : (K : Int) ≤ (ts.length : Int) := by omega
        have k2 : (K : Int) ≤ (c : Int) := by omega
        have k3 : (ts.length : Int) ≤ (c : Int) := by omega
        replace x0 := cell_later hbr.out x0
        replace x1 := cell_later hbr.out x1
        replace x2 := cell_later hbr.out x2
        have hl1 : (ts.take K).length = K := by rw [List.length_take]; omega
        have hl2 : (ts.drop K).length = ts.length - K := by rw [List.length_drop]
        have HT1 : Hid (TksAt wr.heap.size wr (some ⟨b, o, none⟩) (ts.take K)) := by
          have := ((HT.out.later hbw.out).size).part 0 K
          rw [Nat.zero_mul, Nat.add_zero, List.drop_zero] at this; exact this
        have HT2 : Hid (TksAt wr.heap.size wr (some ⟨b, o + K * 3, none⟩) (ts.drop K)) := by
          have := ((HT.out.later hbw.out).size).part K ts.length
          rw [List.take_length] at this; exact this
        have HL1 : Hid ((tksCells (ts.take K)).length = K * 3) := by show _ = _; rw [tksCells_length, hl1]
        have HL2 : Hid ((tksCells (ts.drop K)).length = (ts.length - K) * 3) := by show _ = _; rw [tksCells_length, hl2]
        have HCALL : Hid (∀ (W : World) (g cap : Nat), W.ownsRow wr.heap.size 24 3 (.slice (some ⟨g, 0, none⟩) (K + 1 + (ts.length - K)) cap) (K + 1 + (ts.length - K)) (tksCells (ts.take K) ++ tksCells [⟨xk, xx, xp⟩] ++ tksCells (ts.drop K)) →
            Calls Try.prog 11 #[.slice (some ⟨g, 0, none⟩) (K + 1 + (ts.length - K)) cap, .int .i64 7] W fun e w' => ∃ zo zc, e = .returned (.tuple #[.slice zo 0 zc, .agg #[.int .i64 12, .int .i64 xp]]) ∧ Hid (Below W.heap.size W w')) := by
          intro W g cap hW
          have hlen : (ts.take K ++ [(⟨xk, xx, xp⟩ : Rd.Tk)] ++ ts.drop K).length = K + 1 + (ts.length - K) := by rw [List.length_append, List.length_append, hl1, hl2]; rfl
          rw [← tksCells_append, ← tksCells_append, ← hlen] at hW
          obtain ⟨io, ic, hv, hit, hic1, hic2, _⟩ := tks_read hW
          cases hv
          have hal : Hid (Rd.altsG (ts.take K ++ [(⟨xk, xx, xp⟩ : Rd.Tk)] ++ ts.drop K) 7 = (12, xp, [])) := Rd.altsG_err (Rd.alts_insert (en := 7) HRUN.out (x := ⟨xk, xx, xp⟩) H3.out K HK.out)
          have := alts_is (some ⟨g, 0, none⟩) cap (ts.take K ++ [(⟨xk, xx, xp⟩ : Rd.Tk)] ++ ts.drop K) 7 _ _ _ W (by rw [hlen]; omega) (fun t ht => by
            simp only [List.mem_append, List.mem_singleton] at ht
            rcases ht with (ht | rfl) | ht
            · exact HX.out t (List.mem_of_mem_take ht)
            · simp only; omega
            · exact HX.out t (List.mem_of_mem_drop ht)) ⟨hic1, hic2⟩ hit hal
          rw [hlen] at this
          refine this.mono ?_
          rintro e w' ⟨zo, zc, rfl, hb', _⟩
          exact ⟨zo, zc, rfl, hb'⟩
        have hbb : b < wr.heap.size := Nat.lt_of_lt_of_le hbw_ hbw.out.size
        go_wp2_with fail
        go_cut [12, 13] (fun a g wc => ∃ (zo : Option Addr) (zc G : Nat), a = .slice zo 0 zc ∧ g = .pointer (some ⟨G, 0, none⟩) ∧ G < wc.heap.size ∧ wc.cell? ⟨G, 0, none⟩ = some (.int .i64 12) ∧ wc.cell? ⟨G, 1, none⟩ = some (.int .i64 xp) ∧ Below wr.heap.size wr wc)
        case first =>
          have hcK : ¬ c = K := by rw [HKs.out]; exact HST.out
          go_region_held3 (fun w' => w'.cell? ⟨w.heap.size, 0, none⟩ = some (.int .i64 xk) ∧ w'.cell? ⟨w.heap.size, 1, none⟩ = some (.string xx) ∧ w'.cell? ⟨w.heap.size, 2, none⟩ = some (.int .i64 xp)) (first | exact keep3 (by omega) (by assumption) (by assumption) (by assumption) | exact keepA ((((Below.refl _ wr).alloc (Nat.le_refl _) _).alloc (by simp) _).alloc (by simp <;> omega) _).drew x0 x1 x2 | go_keep)
            (first
              | (refine step_ap (by rfl) (.tmp 80) (.tmp 83) (by rfl) wr.heap.size _ 0 0 [] (by rfl) (own0 (by (first | exact look0 _ _ | exact look1 _ _ _ | exact look1' _ _ _ | exact look2 _ _ _ _ | exact look2' _ _ _ _ | exact look2'' _ _ _ _)) (by omega)) ⟨b, o, none⟩ K c (tksCells (ts.take K)) (by rfl) HL1.out (by exact (HT1.out.later (by first | exact ((Below.refl _ wr).alloc (Nat.le_refl _) _).drew | exact (((Below.refl _ wr).alloc (Nat.le_refl _) _).alloc (by simp) _).drew | exact ((((Below.refl _ wr).alloc (Nat.le_refl _) _).alloc (by simp) _).alloc (by simp <;> omega) _).drew)).cells) (tksCells_one _) (by omega) (by simp <;> omega) ?_; intro g3 cap3 w3 hown3 hgrow3 hat3; simp only [Nat.zero_add, List.nil_append] at hown3; (try simp only [Nat.zero_add]); have hs3 := hgrow3.size; have hG3 := (hown3.lt g3 rfl); have HB3 : Hid (Below wr.heap.size wr w3) := (by first | exact (((Below.refl _ wr).alloc (Nat.le_refl _) _).drew).grown hgrow3 (by simp <;> omega) (fun k hk => by cases hk; omega) | exact ((((Below.refl _ wr).alloc (Nat.le_refl _) _).alloc (by simp) _).drew).grown hgrow3 (by simp <;> omega) (fun k hk => by cases hk; omega) | exact (((((Below.refl _ wr).alloc (Nat.le_refl _) _).alloc (by simp) _).alloc (by simp <;> omega) _).drew).grown hgrow3 (by simp <;> omega) (fun k hk => by cases hk; omega)); have y0 := cell_later HB3.out x0; have y1 := cell_later HB3.out x1; have y2 := cell_later HB3.out x2; (try (have p3a : w3.heap[wr.heap.size]? = some (.cells #[.int .i64 xk, .string xx, .int .i64 xp] 24 (0, 0)) := (by rw [hgrow3.block (wr.heap.size) (by first | omega | (simp; done) | (simp; omega)) (by first | (simp; done) | (simp; omega))]; (first | exact look0 _ _ | exact look1 _ _ _ | exact look1' _ _ _ | exact look2 _ _ _ _ | exact look2' _ _ _ _ | exact look2'' _ _ _ _)))); (try (have p3b : w3.heap[wr.heap.size + 1]? = some (.cells #[.int .i64 xk, .string xx, .int .i64 xp] 24 (0, 0)) := (by rw [hgrow3.block (wr.heap.size + 1) (by first | omega | (simp; done) | (simp; omega)) (by first | (simp; done) | (simp; omega))]; (first | exact look0 _ _ | exact look1 _ _ _ | exact look1' _ _ _ | exact look2 _ _ _ _ | exact look2' _ _ _ _ | exact look2'' _ _ _ _)))); (try (have p3c : w3.heap[wr.heap.size + 1 + 1]? = some (.cells #[.int .i64 xk, .string xx, .int .i64 xp] 24 (0, 0)) := (by rw [hgrow3.block (wr.heap.size + 1 + 1) (by first | omega | (simp; done) | (simp; omega)) (by first | (simp; done) | (simp; omega))]; (first | exact look0 _ _ | exact look1 _ _ _ | exact look1' _ _ _ | exact look2 _ _ _ _ | exact look2' _ _ _ _ | exact look2'' _ _ _ _)))); (try (have q3a : w3.heap[wr.heap.size]? = some (.cells #[.int .i64 0, .int .i64 0] 30 (0, 0)) := (by rw [hgrow3.block (wr.heap.size) (by first | omega | (simp; done) | (simp; omega)) (by first | (simp; done) | (simp; omega))]; (first | exact look0 _ _ | exact look1 _ _ _ | exact look1' _ _ _ | exact look2 _ _ _ _ | exact look2' _ _ _ _ | exact look2'' _ _ _ _)))); (try (have q3b : w3.heap[wr.heap.size + 1]? = some (.cells #[.int .i64 0, .int .i64 0] 30 (0, 0)) := (by rw [hgrow3.block (wr.heap.size + 1) (by first | omega | (simp; done) | (simp; omega)) (by first | (simp; done) | (simp; omega))]; (first | exact look0 _ _ | exact look1 _ _ _ | exact look1' _ _ _ | exact look2 _ _ _ _ | exact look2' _ _ _ _ | exact look2'' _ _ _ _)))); (try (have q3c : w3.heap[wr.heap.size + 1 + 1]? = some (.cells #[.int .i64 0, .int .i64 0] 30 (0, 0)) := (by rw [hgrow3.block (wr.heap.size + 1 + 1) (by first | omega | (simp; done) | (simp; omega)) (by first | (simp; done) | (simp; omega))]; (first | exact look0 _ _ | exact look1 _ _ _ | exact look1' _ _ _ | exact look2 _ _ _ _ | exact look2' _ _ _ _ | exact look2'' _ _ _ _)))); (try simp at hs3 hat3))
              | (refine step_ap (by rfl) (.tmp 84) (.tmp 86) (by rfl) wr.heap.size g3 K cap3 (tksCells (ts.take K)) (by rfl) (by first | exact hown3 | exact hown3.alloc _ | exact (hown3.alloc _).alloc _) ⟨_, 0, none⟩ 1 1 (tksCells [⟨xk, xx, xp⟩]) (by rfl) rfl (World.news_of_block (cs := #[.int .i64 xk, .string xx, .int .i64 xp]) (t := 24) (fr := (0, 0)) (by (first | assumption | (rw [Below.heap_alloc _ _ _ (by omega)]; assumption) | exact look0 _ _ | exact look1 _ _ _ | exact look1' _ _ _ | exact look2 _ _ _ _ | exact look2' _ _ _ _ | exact look2'' _ _ _ _))) (tksCells_one _) (by omega) (by first | omega | (simp <;> omega)) ?_; intro g4 cap4 w4 hown4 hgrow4 hat4; have hs4 := hgrow4.size; have hG4 := (hown4.lt g4 rfl); have HB4 : Hid (Below wr.heap.size wr w4) := (by first | exact HB3.out.grown hgrow4 HB3.out.size (fun k hk => by cases hk; exact hG3.1) | exact (HB3.out.alloc HB3.out.size _).grown hgrow4 (by simp <;> omega) (fun k hk => by cases hk; exact hG3.1) | exact ((HB3.out.alloc HB3.out.size _).alloc (by simp <;> omega) _).grown hgrow4 (by simp <;> omega) (fun k hk => by cases hk; exact hG3.1)); have v0 := cell_later HB4.out x0; have v1 := cell_later HB4.out x1; have v2 := cell_later HB4.out x2; (try (have q4a : w4.heap[wr.heap.size]? = some (.cells #[.int .i64 0, .int .i64 0] 30 (0, 0)) := (by rw [hgrow4.block (wr.heap.size) (by first | omega | (simp; done) | (simp; omega)) (fun e => by cases e; rcases hat3 with h | h <;> omega)]; (first | assumption | (rw [Below.heap_alloc _ _ _ (by omega)]; assumption) | exact look0 _ _ | exact look1 _ _ _ | exact look1' _ _ _ | exact look2 _ _ _ _ | exact look2' _ _ _ _ | exact look2'' _ _ _ _)))); (try (have q4b : w4.heap[wr.heap.size + 1]? = some (.cells #[.int .i64 0, .int .i64 0] 30 (0, 0)) := (by rw [hgrow4.block (wr.heap.size + 1) (by first | omega | (simp; done) | (simp; omega)) (fun e => by cases e; rcases hat3 with h | h <;> omega)]; (first | assumption | (rw [Below.heap_alloc _ _ _ (by omega)]; assumption) | exact look0 _ _ | exact look1 _ _ _ | exact look1' _ _ _ | exact look2 _ _ _ _ | exact look2' _ _ _ _ | exact look2'' _ _ _ _)))); (try (have q4c : w4.heap[wr.heap.size + 1 + 1]? = some (.cells #[.int .i64 0, .int .i64 0] 30 (0, 0)) := (by rw [hgrow4.block (wr.heap.size + 1 + 1) (by first | omega | (simp; done) | (simp; omega)) (fun e => by cases e; rcases hat3 with h | h <;> omega)]; (first | assumption | (rw [Below.heap_alloc _ _ _ (by omega)]; assumption) | exact look0 _ _ | exact look1 _ _ _ | exact look1' _ _ _ | exact look2 _ _ _ _ | exact look2' _ _ _ _ | exact look2'' _ _ _ _)))); (try (have q4d : w4.heap[w3.heap.size]? = some (.cells #[.int .i64 0, .int .i64 0] 30 (0, 0)) := (by rw [hgrow4.block (w3.heap.size) (by first | omega | (simp; done) | (simp; omega)) (fun e => by cases e; rcases hat3 with h | h <;> omega)]; (first | assumption | (rw [Below.heap_alloc _ _ _ (by omega)]; assumption) | exact look0 _ _ | exact look1 _ _ _ | exact look1' _ _ _ | exact look2 _ _ _ _ | exact look2' _ _ _ _ | exact look2'' _ _ _ _)))); (try (have q4e : w4.heap[w3.heap.size + 1]? = some (.cells #[.int .i64 0, .int .i64 0] 30 (0, 0)) := (by rw [hgrow4.block (w3.heap.size + 1) (by first | omega | (simp; done) | (simp; omega)) (fun e => by cases e; rcases hat3 with h | h <;> omega)]; (first | assumption | (rw [Below.heap_alloc _ _ _ (by omega)]; assumption) | exact look0 _ _ | exact look1 _ _ _ | exact look1' _ _ _ | exact look2 _ _ _ _ | exact look2' _ _ _ _ | exact look2'' _ _ _ _)))); (try simp at hs4 hat4))
              | (refine step_ap (by rfl) (.tmp 87) (.tmp 90) (by rfl) wr.heap.size g4 (K + 1) cap4 (tksCells (ts.take K) ++ tksCells [⟨xk, xx, xp⟩]) (by rfl) (by first | exact hown4 | exact hown4.alloc _) ⟨b, o + K * 3, none⟩ (ts.length - K) (c - K) (tksCells (ts.drop K)) (by rfl) HL2.out (by exact (HT2.out.later (by first | exact HB4.out | exact HB4.out.alloc HB4.out.size _)).cells) (tksCells_one _) (by omega) (by first | omega | (simp <;> omega)) ?_; intro g5 cap5 w5 hown5 hgrow5 hat5; have hs5 := hgrow5.size; have hG5 := (hown5.lt g5 rfl); have HB5 : Hid (Below wr.heap.size wr w5) := (by first | exact HB4.out.grown hgrow5 HB4.out.size (fun k hk => by cases hk; exact hG4.1) | exact (HB4.out.alloc HB4.out.size _).grown hgrow5 (by simp <;> omega) (fun k hk => by cases hk; exact hG4.1) | exact ((HB4.out.alloc HB4.out.size _).alloc (by simp <;> omega) _).grown hgrow5 (by simp <;> omega) (fun k hk => by cases hk; exact hG4.1)); have r0 := cell_later HB5.out x0; have r1 := cell_later HB5.out x1; have r2 := cell_later HB5.out x2; (try (have q5a : w5.heap[wr.heap.size]? = some (.cells #[.int .i64 0, .int .i64 0] 30 (0, 0)) := (by rw [hgrow5.block (wr.heap.size) (by first | omega | (simp; done) | (simp; omega)) (fun e => by cases e; rcases hat4 with h | h <;> (first | omega | (rcases hat3 with h' | h' <;> omega)))]; (first | assumption | (rw [Below.heap_alloc _ _ _ (by omega)]; assumption) | exact look0 _ _ | exact look1 _ _ _ | exact look1' _ _ _ | exact look2 _ _ _ _ | exact look2' _ _ _ _ | exact look2'' _ _ _ _)))); (try (have q5b : w5.heap[wr.heap.size + 1]? = some (.cells #[.int .i64 0, .int .i64 0] 30 (0, 0)) := (by rw [hgrow5.block (wr.heap.size + 1) (by first | omega | (simp; done) | (simp; omega)) (fun e => by cases e; rcases hat4 with h | h <;> (first | omega | (rcases hat3 with h' | h' <;> omega)))]; (first | assumption | (rw [Below.heap_alloc _ _ _ (by omega)]; assumption) | exact look0 _ _ | exact look1 _ _ _ | exact look1' _ _ _ | exact look2 _ _ _ _ | exact look2' _ _ _ _ | exact look2'' _ _ _ _)))); (try (have q5c : w5.heap[wr.heap.size + 1 + 1]? = some (.cells #[.int .i64 0, .int .i64 0] 30 (0, 0)) := (by rw [hgrow5.block (wr.heap.size + 1 + 1) (by first | omega | (simp; done) | (simp; omega)) (fun e => by cases e; rcases hat4 with h | h <;> (first | omega | (rcases hat3 with h' | h' <;> omega)))]; (first | assumption | (rw [Below.heap_alloc _ _ _ (by omega)]; assumption) | exact look0 _ _ | exact look1 _ _ _ | exact look1' _ _ _ | exact look2 _ _ _ _ | exact look2' _ _ _ _ | exact look2'' _ _ _ _)))); (try (have q5d : w5.heap[w3.heap.size]? = some (.cells #[.int .i64 0, .int .i64 0] 30 (0, 0)) := (by rw [hgrow5.block (w3.heap.size) (by first | omega | (simp; done) | (simp; omega)) (fun e => by cases e; rcases hat4 with h | h <;> (first | omega | (rcases hat3 with h' | h' <;> omega)))]; (first | assumption | (rw [Below.heap_alloc _ _ _ (by omega)]; assumption) | exact look0 _ _ | exact look1 _ _ _ | exact look1' _ _ _ | exact look2 _ _ _ _ | exact look2' _ _ _ _ | exact look2'' _ _ _ _)))); (try (have q5e : w5.heap[w3.heap.size + 1]? = some (.cells #[.int .i64 0, .int .i64 0] 30 (0, 0)) := (by rw [hgrow5.block (w3.heap.size + 1) (by first | omega | (simp; done) | (simp; omega)) (fun e => by cases e; rcases hat4 with h | h <;> (first | omega | (rcases hat3 with h' | h' <;> omega)))]; (first | assumption | (rw [Below.heap_alloc _ _ _ (by omega)]; assumption) | exact look0 _ _ | exact look1 _ _ _ | exact look1' _ _ _ | exact look2 _ _ _ _ | exact look2' _ _ _ _ | exact look2'' _ _ _ _)))); (try (have q5f : w5.heap[w4.heap.size]? = some (.cells #[.int .i64 0, .int .i64 0] 30 (0, 0)) := (by rw [hgrow5.block (w4.heap.size) (by first | omega | (simp; done) | (simp; omega)) (fun e => by cases e; rcases hat4 with h | h <;> (first | omega | (rcases hat3 with h' | h' <;> omega)))]; (first | assumption | (rw [Below.heap_alloc _ _ _ (by omega)]; assumption) | exact look0 _ _ | exact look1 _ _ _ | exact look1' _ _ _ | exact look2 _ _ _ _ | exact look2' _ _ _ _ | exact look2'' _ _ _ _)))); (try simp at hs5 hat5))
              | (go_at_call 11; refine (HCALL.out _ g5 cap5 (by first | exact hown5 | exact hown5.alloc _)).mono ?_; rintro e w6 ⟨zo, zc, rfl, hb6⟩; have hs6 := hb6.out.size; have HB6 : Hid (Below wr.heap.size wr w6) := (by first | exact HB5.out.trans (hb6.out.mono HB5.out.size) | exact (HB5.out.alloc HB5.out.size _).trans (hb6.out.mono (HB5.out.alloc HB5.out.size _).size)); have j0 := cell_later HB6.out x0; have j1 := cell_later HB6.out x1; have j2 := cell_later HB6.out x2; (try (have t6a : w6.heap[wr.heap.size]? = some (.cells #[.int .i64 0, .int .i64 0] 30 (0, 0)) := (by rw [hb6.out.block (wr.heap.size) (by first | omega | (simp <;> omega))]; (first | assumption | (rw [Below.heap_alloc _ _ _ (by omega)]; assumption) | exact look0 _ _ | exact look1 _ _ _ | exact look1' _ _ _ | exact look2 _ _ _ _ | exact look2' _ _ _ _ | exact look2'' _ _ _ _)); obtain ⟨k6a, l6a⟩ := cells_two6 t6a; obtain ⟨m6a, n6a⟩ := frozen_two6 t6a)); (try (have t6b : w6.heap[wr.heap.size + 1]? = some (.cells #[.int .i64 0, .int .i64 0] 30 (0, 0)) := (by rw [hb6.out.block (wr.heap.size + 1) (by first | omega | (simp <;> omega))]; (first | assumption | (rw [Below.heap_alloc _ _ _ (by omega)]; assumption) | exact look0 _ _ | exact look1 _ _ _ | exact look1' _ _ _ | exact look2 _ _ _ _ | exact look2' _ _ _ _ | exact look2'' _ _ _ _)); obtain ⟨k6b, l6b⟩ := cells_two6 t6b; obtain ⟨m6b, n6b⟩ := frozen_two6 t6b)); (try (have t6c : w6.heap[wr.heap.size + 1 + 1]? = some (.cells #[.int .i64 0, .int .i64 0] 30 (0, 0)) := (by rw [hb6.out.block (wr.heap.size + 1 + 1) (by first | omega | (simp <;> omega))]; (first | assumption | (rw [Below.heap_alloc _ _ _ (by omega)]; assumption) | exact look0 _ _ | exact look1 _ _ _ | exact look1' _ _ _ | exact look2 _ _ _ _ | exact look2' _ _ _ _ | exact look2'' _ _ _ _)); obtain ⟨k6c, l6c⟩ := cells_two6 t6c; obtain ⟨m6c, n6c⟩ := frozen_two6 t6c)); (try (have t6d : w6.heap[w3.heap.size]? = some (.cells #[.int .i64 0, .int .i64 0] 30 (0, 0)) := (by rw [hb6.out.block (w3.heap.size) (by first | omega | (simp <;> omega))]; (first | assumption | (rw [Below.heap_alloc _ _ _ (by omega)]; assumption) | exact look0 _ _ | exact look1 _ _ _ | exact look1' _ _ _ | exact look2 _ _ _ _ | exact look2' _ _ _ _ | exact look2'' _ _ _ _)); obtain ⟨k6d, l6d⟩ := cells_two6 t6d; obtain ⟨m6d, n6d⟩ := frozen_two6 t6d)); (try (have t6e : w6.heap[w3.heap.size + 1]? = some (.cells #[.int .i64 0, .int .i64 0] 30 (0, 0)) := (by rw [hb6.out.block (w3.heap.size + 1) (by first | omega | (simp <;> omega))]; (first | assumption | (rw [Below.heap_alloc _ _ _ (by omega)]; assumption) | exact look0 _ _ | exact look1 _ _ _ | exact look1' _ _ _ | exact look2 _ _ _ _ | exact look2' _ _ _ _ | exact look2'' _ _ _ _)); obtain ⟨k6e, l6e⟩ := cells_two6 t6e; obtain ⟨m6e, n6e⟩ := frozen_two6 t6e)); (try (have t6f : w6.heap[w4.heap.size]? = some (.cells #[.int .i64 0, .int .i64 0] 30 (0, 0)) := (by rw [hb6.out.block (w4.heap.size) (by first | omega | (simp <;> omega))]; (first | assumption | (rw [Below.heap_alloc _ _ _ (by omega)]; assumption) | exact look0 _ _ | exact look1 _ _ _ | exact look1' _ _ _ | exact look2 _ _ _ _ | exact look2' _ _ _ _ | exact look2'' _ _ _ _)); obtain ⟨k6f, l6f⟩ := cells_two6 t6f; obtain ⟨m6f, n6f⟩ := frozen_two6 t6f)); (try (have t6g : w6.heap[w5.heap.size]? = some (.cells #[.int .i64 0, .int .i64 0] 30 (0, 0)) := (by rw [hb6.out.block (w5.heap.size) (by first | omega | (simp <;> omega))]; (first | assumption | (rw [Below.heap_alloc _ _ _ (by omega)]; assumption) | exact look0 _ _ | exact look1 _ _ _ | exact look1' _ _ _ | exact look2 _ _ _ _ | exact look2' _ _ _ _ | exact look2'' _ _ _ _)); obtain ⟨k6g, l6g⟩ := cells_two6 t6g; obtain ⟨m6g, n6g⟩ := frozen_two6 t6g)); (try simp at hs6)))
          all_goals
            go_wp2_with fail
            go_meet
            case rel => (first | exact ⟨zo, zc, _, rfl, rfl, leafA HB6.out _ _ _⟩ | exact ⟨zo, zc, _, rfl, rfl, leafB HB6.out (by assumption) (by omega) _ _⟩)
        case rest =>
          obtain ⟨zo, zc, G, rfl, rfl, hGl, G0, G1, hbc⟩ := hcut
          have HBC : Hid (Below wr.heap.size wr wc) := hbc
          have HBW : Hid (Below w.heap.size w wc) := hbw.out.trans (hbc.mono hbw.out.size)
          have hzc := hbc.size
          replace x0 := cell_later hbc x0
          replace x1 := cell_later hbc x1
          replace x2 := cell_later hbc x2
          clear hbc kc HCALL HT1 HT2 HL1 HL2 hl1 hl2 HK hmod k0 k1 k2 hKl
          obtain ⟨D, hD, hDl⟩ : ∃ D : Nat, (m : Int) % (ts.length : Int) = (D : Int) ∧ D < ts.length := ⟨m % ts.length, by omega, Nat.mod_lt _ ht0⟩
          have d0 : (0 : Int) ≤ (D : Int) := by omega
          have d1 : (D : Int) ≤ (ts.length : Int) := by omega
          have d2 : (D : Int) ≤ (c : Int) := by omega
          have HCELL : Hid (∀ i (hi : i < bs.length), wr.cell? ⟨g, i + 1, none⟩ = some (.int .i64 (bs[i] : Nat))) := by
            intro i hi
            have := hown.out.cells (g := g) rfl (i + 1) (.int .i64 (bs[i] : Nat)) (by simp only [natCells, List.map_cons, List.getElem?_cons_succ, List.getElem?_map, List.getElem?_eq_getElem hi]; rfl)
            rwa [addr_zero_add] at this
          have hgl : g < wr.heap.size := (hown.out.lt g rfl).2
          have HTD : Hid (∀ W : World, Below wr.heap.size wr W → TksAt W.heap.size W (some ⟨b, o, none⟩) (ts.take D)) := by
            intro W hW
            have := ((HT.out.later (hbw.out.trans (hW.mono hbw.out.size))).size).part 0 D
            rw [Nat.zero_mul, Nat.add_zero, List.drop_zero] at this; exact this
          have hlD : (ts.take D).length = D := by rw [List.length_take]; omega
          obtain ⟨E2, A2, ys, HG2, HY⟩ : ∃ (E2 A2 : Int) (ys : List Rd.Al), Hid (Rd.altsG (ts.take D) 7 = (E2, A2, ys)) ∧ Hid ((D ∈ bs ∧ E2 = 0 ∧ A2 = 0 ∧ ys.length ≤ xs.length) ∨ (D ∉ bs ∧ E2 = 12 ∧ A2 = 7 ∧ ys = [])) := by
            have hcu := Rd.alts_cut (en := 7) HRUN.out D (by omega)
            by_cases hin : D ∈ bs
            · obtain ⟨i, hi, e, h5⟩ := (HMEM.out _).1 hin
              rw [getD_get ts i hi] at h5
              obtain ⟨bl, q1, q2⟩ := hcu.1 i hi e h5
              exact ⟨0, 0, bl, Rd.altsG_ok q1, .inl ⟨hin, rfl, rfl, q2⟩⟩
            · have q1 := hcu.2 (fun i hi e h5 => hin ((HMEM.out _).2 ⟨i, hi, e, by rw [getD_get ts i hi]; exact h5⟩))
              exact ⟨12, 7, [], Rd.altsG_err q1, .inr ⟨hin, rfl, rfl, rfl⟩⟩
          have HCALL : Hid (∀ W : World, Below wr.heap.size wr W → Calls Try.prog 11 #[.slice (some ⟨b, o, none⟩) D c, .int .i64 7] W fun e w' => ∃ yo yc, e = .returned (.tuple #[.slice yo ys.length yc, .agg #[.int .i64 E2, .int .i64 A2]]) ∧ Hid (Below W.heap.size W w')) := by
            intro W hW
            have := alts_is (some ⟨b, o, none⟩) c (ts.take D) 7 _ _ _ W (by omega) (fun t ht => HX.out t (List.mem_of_mem_take ht)) (by rw [hlD]; exact ⟨by omega, HC.out.2⟩) (HTD.out W hW) HG2
            rw [hlD] at this
            refine this.mono ?_
            rintro e w' ⟨zo, zc, rfl, hb', _⟩
            exact ⟨zo, zc, rfl, hb'⟩
          clear HTD hlD HG2 HMEM HRUN HT HM HX HC
          go_wp2_with (first | (go_at_call 11; refine (HCALL.out _ HBC.out).mono ?_; rintro e w8 ⟨yo, yc, rfl, hb8⟩))
          have HB8 : Hid (Below wr.heap.size wr w8) := HBC.out.trans (hb8.out.mono hzc)
          have HB9 : Hid (Below wr.heap.size wr (w8.alloc (Obj.cells #[Value.int IntKind.i64 E2, Value.int IntKind.i64 A2] 30))) := HB8.out.alloc HB8.out.size _
          have HBZ : Hid (Below w.heap.size w (w8.alloc (Obj.cells #[Value.int IntKind.i64 E2, Value.int IntKind.i64 A2] 30))) := hbw.out.trans (HB9.out.mono hbw.out.size)
          have e0 : (w8.alloc (Obj.cells #[Value.int IntKind.i64 E2, Value.int IntKind.i64 A2] 30)).cell? ⟨w8.heap.size, 0, none⟩ = some (.int .i64 E2) := by simp [go_sem]
          have e1 : (w8.alloc (Obj.cells #[Value.int IntKind.i64 E2, Value.int IntKind.i64 A2] 30)).cell? ⟨w8.heap.size, 1, none⟩ = some (.int .i64 A2) := by simp [go_sem]
          clear hb8 HB8 HCALL HBC x0 x1 x2 G0 G1
          generalize (w8.alloc (Obj.cells #[Value.int IntKind.i64 E2, Value.int IntKind.i64 A2] 30)) = W9 at *
          go_loop [17, 18] (fun v i => ∃ j : Nat, j ≤ bs.length ∧ i = .int .i64 ((j : Int) + 1) ∧ v = .bool (decide (D ∈ bs.take j))) (fun _ i => bs.length + 1 - (intOf i).toNat)
          case atStart => exact ⟨0, Nat.zero_le _, rfl, by simp⟩
          case round =>
            obtain ⟨j, hj, rfl, rfl⟩ := hrel
            by_cases hlt : j < bs.length
            · have HS : Hid (decide (D ∈ bs.take (j + 1)) = (decide (D ∈ bs.take j) || decide (bs[j] = D))) := memTake bs D j hlt
              have cb := cell_later HB9.out (HCELL.out j hlt)
              generalize decide (D ∈ bs.take j) = t at *
              generalize bs[j] = y at *
              cases t
              · by_cases hy : y = D
                · have HS' : Hid (decide (D ∈ bs.take (j + 1)) = true) := by show _ = _; rw [HS.out]; simp [hy]
                  have hyd : ((y : Int) == (D : Int)) = true := by simp [hy]
                  clear hy HS
                  go_wp2_with fail
                  go_round
                  case rel => exact ⟨j + 1, by omega, by go_num, by rw [HS'.out]⟩
                  case measure => simp [intOf]; omega
                · have HS' : Hid (decide (D ∈ bs.take (j + 1)) = false) := by show _ = _; rw [HS.out]; simp [hy]
                  have hyd : ((y : Int) == (D : Int)) = false := beq_eq_false_iff_ne.2 (by omega)
                  clear hy HS
                  go_wp2_with fail
                  go_round
                  case rel => exact ⟨j + 1, by omega, by go_num, by rw [HS'.out]⟩
                  case measure => simp [intOf]; omega
              · have HS' : Hid (decide (D ∈ bs.take (j + 1)) = true) := by show _ = _; rw [HS.out]; simp
                clear HS
                go_wp2_with fail
                go_round
                case rel => exact ⟨j + 1, by omega, by go_num, by rw [HS'.out]⟩
                case measure => simp [intOf]; omega
            · have e : j = bs.length := by omega
              generalize ht : decide (D ∈ bs.take j) = t
              subst e
              rw [List.take_length] at ht
              clear hlt HCELL
              rcases HY.out with ⟨h5, rfl, rfl, h6⟩ | ⟨h5, rfl, rfl, rfl⟩
              · obtain rfl : t = true := by rw [← ht]; simp [h5]
                clear ht h5 HY
                have h6d : (ys.length : Int) ≤ (xs.length : Int) := by omega
                go_wp2_with (first | (go_at_call 10; refine (rwakes_any _).mono ?_; rintro e w2 ⟨rfl, hb2⟩))
                go_ret
                exact ⟨rfl, HBZ.out.trans (hb2.mono HBZ.out.size)⟩
              · obtain rfl : t = false := by rw [← ht]; simp [h5]
                clear ht h5 HY
                go_wp2_with (first | (go_at_call 10; refine (rwakes_any _).mono ?_; rintro e w2 ⟨rfl, hb2⟩))
                go_ret
                exact ⟨rfl, HBZ.out.trans (hb2.mono HBZ.out.size)⟩
  · rw [hG] at q2
    simp only [Prod.mk.injEq] at q2
    obtain ⟨rfl, rfl, rfl⟩ := q2
    have hne : (e.1 != 0) = true := by simp; omega
    generalize e.1 = n1 at *
    generalize e.2 = a1 at *
    clear q3 hG
    go_enter Try.func3, Try.ntmps3
    go_wp2_with (first | (go_at_call 9; refine (HT'.out ()).mono ?_; rintro e w1 ⟨rfl, rfl⟩))
    refine (alts_is (some ⟨b, o, none⟩) c ts 7 _ _ _ _ (by omega) HX.out HC.out (HT.out.later HB.out).size HG).mono ?_
    rintro e w1 ⟨xo, xc, rfl, hb1, ha1⟩
    have HB1 : Hid (Below w.heap.size w (w1.alloc (Obj.cells #[Value.int IntKind.i64 n1, Value.int IntKind.i64 a1] 30))) := (HB.out.trans (hb1.out.mono HB.out.size)).alloc (HB.out.trans (hb1.out.mono HB.out.size)).size _
    go_wp2_with (first | (go_at_call 10; refine (rwakes_any _).mono ?_; rintro e w2 ⟨rfl, hb2⟩))
    go_ret
    exact ⟨rfl, HB1.out.trans (hb2.mono HB1.out.size)⟩
end Go.Proofs.Ytnbniaijholimaa
