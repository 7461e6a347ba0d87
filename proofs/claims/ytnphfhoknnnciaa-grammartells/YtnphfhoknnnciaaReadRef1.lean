/-
  The document's own Alts comes to the same: of every row of at most 2000 tokens.
-/
import Derived.Test.YtnphfhoknnnciaaReadOpen
import Derived.Test.YtnphfhoknnnciaaReadTok
import Derived.Test.YtnphfhoknnnciaaLexRefInv
import Derived.Test.YtnphfhoknnnciaaReadMath2
import Derived.Test.YtnphfhoknnnciaaReadAppend
namespace Go.Proofs.Ytnphfhoknnnciaa
open Go.RowKit

set_option maxHeartbeats 400000 in
theorem places_of (ao : Option Addr) (c : Nat) (ts : List Rd.Tk) (en : Int) (k : Nat) (p : Int) (w : World) (h : TksAt w.heap.size w ao ts) (hp : (∃ h : k < ts.length, p = ts[k].pos) ∨ (ts.length ≤ k ∧ p = en)) :
    Calls Try.prog 61 #[.agg #[.slice ao ts.length c, .int .i64 en], .int .i64 k] w fun e w' => e = .returned (.int .i64 p) ∧ Below w.heap.size w w' := by
  have HT : Hid (TksAt w.heap.size w ao ts) := h
  clear h
  rcases hp with ⟨hk, hp⟩ | ⟨hk, hp⟩
  · obtain ⟨b, o, rfl, hb1, hb2, a0, a1, a2⟩ := HT.out k hk
    rw [← hp] at a2
    clear hp
    generalize ts[k] = y at *
    obtain ⟨yk, yx, yp⟩ := y
    simp only at a0 a1
    go_enter Try.func61, Try.ntmps61
    go_wp2_with fail
    go_ret
    exact ⟨rfl, (Below.refl _ w).alloc (Nat.le_refl _) _⟩
  · subst hp
    have hkd : decide ((k : Int) < (ts.length : Int)) = false := by simp; omega
    go_enter Try.func61, Try.ntmps61
    go_wp2_with fail
    go_ret
    exact ⟨rfl, (Below.refl _ w).alloc (Nat.le_refl _) _⟩

/-- what holds of memory while the document's Alts goes: its result's block, the places' block, the alternatives -/
structure XI (w wr : World) (ao : Option Addr) (n c : Nat) (en : Int) (v : Value) (acc : List Rd.Al) : Prop where
  below : Below w.heap.size w wr
  size : w.heap.size + 2 ≤ wr.heap.size
  rb : wr.heap[w.heap.size]? = some (.cells #[.slice none 0 0, .int .i64 0, .int .i64 0] 65 (0, 0))
  pb : wr.heap[w.heap.size + 1]? = some (.cells #[.slice ao n c, .int .i64 en] 93 (0, 0))
  own : AlsAt (w.heap.size + 2) wr v acc

theorem XI.later {w wr w1 : World} {ao : Option Addr} {n c : Nat} {en : Int} {v : Value} {acc : List Rd.Al} (h : XI w wr ao n c en v acc) (hb : Below wr.heap.size wr w1) : XI w w1 ao n c en v acc where
  below := h.below.trans (hb.mono h.below.size)
  size := Nat.le_trans h.size hb.size
  rb := by rw [hb.block _ (by have := h.size; omega)]; exact h.rb
  pb := by rw [hb.block _ (by have := h.size; omega)]; exact h.pb
  own := h.own.below hb

theorem XI.start (w : World) (ao : Option Addr) (n c : Nat) (en : Int) : XI w ((w.alloc (.cells #[.slice none 0 0, .int .i64 0, .int .i64 0] 65)).alloc (.cells #[.slice ao n c, .int .i64 en] 93)) ao n c en (.slice none 0 0) [] where
  below := ((Below.refl _ w).alloc (Nat.le_refl _) _).alloc (by simp) _
  size := by simp
  rb := by rw [Below.heap_alloc _ _ _ (by simp)]; exact heap_alloc_new w _
  pb := by
    have := heap_alloc_new (w.alloc (.cells #[.slice none 0 0, .int .i64 0, .int .i64 0] 65)) (.cells #[.slice ao n c, .int .i64 en] 93)
    simpa using this
  own := AlsAt.nil _ _

theorem XI.push {w wr w1 : World} {ao : Option Addr} {n c : Nat} {en : Int} {xo : Option Addr} {xc : Nat} {acc : List Rd.Al} (h : XI w wr ao n c en (.slice xo acc.length xc) acc) {ps : List (Rd.Al × Value)} (h1 : ps.map (·.1) = acc)
    (h2 : wr.ownsRow (w.heap.size + 2) 71 4 (.slice xo acc.length xc) acc.length (alsCells ps)) (h3 : ∀ p ∈ ps, wr.ownsRow (w.heap.size + 2) 69 3 p.2 p.1.2.length (tksCells p.1.2)) (p : Rd.Al × Value)
    (hp : wr.ownsRow (w.heap.size + 2) 69 3 p.2 p.1.2.length (tksCells p.1.2)) {v' : Value} (ho : w1.ownsRow (w.heap.size + 2) 71 4 v' (acc.length + 1) (alsCells ps ++ alCells p)) (hg : wr.grownBy w1 (Value.slice xo acc.length xc).ownBlock) :
    XI w w1 ao n c en v' (acc ++ [p.1]) where
  below := h.below.grown hg h.below.size (fun k hk => by have := (h2.lt k hk).1; omega)
  size := Nat.le_trans h.size hg.size
  rb := by rw [hg.block _ (by have := h.size; omega) (fun e => by have := (h2.lt _ e.symm).1; omega)]; exact h.rb
  pb := by rw [hg.block _ (by have := h.size; omega) (fun e => by have := (h2.lt _ e.symm).1; omega)]; exact h.pb
  own := by
    have hpl : ps.length = acc.length := by rw [← h1, List.length_map]
    exact AlsAt.push h1 (by rw [hpl]; exact h2) h3 p hp (by rw [hpl]; exact ho) hg

theorem cells_two {w : World} {b : Nat} {x y : Value} {t : TypeId} (h : w.heap[b]? = some (.cells #[x, y] t (0, 0))) : w.cell? ⟨b, 0, none⟩ = some x ∧ w.cell? ⟨b, 1, none⟩ = some y := by
  simp [World.cell?, h]

/-- what the document's Alts comes to -/
def RAPost (ts : List Rd.Tk) (en : Int) (w : World) (e : Ending) (w' : World) : Prop :=
  Below w.heap.size w w' ∧ ∃ v, e = .returned (.agg #[v, .int .i64 (Rd.altsG ts en).1, .int .i64 (Rd.altsG ts en).2.1]) ∧ AlsAt w.heap.size w' v (Rd.altsG ts en).2.2

set_option maxRecDepth 100000 in
set_option maxHeartbeats 20000000 in
theorem refAlts_any (ao : Option Addr) (c : Nat) (ts : List Rd.Tk) (en : Int) (w : World) (hl : ts.length ≤ 2000) (h : TksAt w.heap.size w ao ts) :
    Calls Try.prog 30 #[.slice ao ts.length c, .int .i64 en] w (RAPost ts en w) := by
  have HT : Hid (TksAt w.heap.size w ao ts) := h
  clear h
  have GE : Hid (∀ e : Rd.Er, Rd.alts ts en = .error e → ∀ w', Below w.heap.size w w' → RAPost ts en w (.returned (.agg #[.slice none 0 0, .int .i64 e.1, .int .i64 e.2])) w') := fun e he w' hb => by
    refine ⟨hb, .slice none 0 0, ?_, ?_⟩
    · rw [Rd.altsG_err he]
    · rw [Rd.altsG_err he]; exact AlsAt.nil _ _
  have H0 := XI.start w ao ts.length c en
  go_enter Try.func30, Try.ntmps30
  go_wp2_with fail
  go_loopw [5, 6] (fun v i wr => ∃ (k : Nat) (acc : List Rd.Al) (xo : Option Addr) (xc : Nat), k ≤ ts.length ∧ i = .int .i64 k ∧ v = .slice xo acc.length xc ∧ acc.length ≤ 60 ∧ Hid (XI w wr ao ts.length c en (.slice xo acc.length xc) acc) ∧
      Hid (Rd.alts ts en = Rd.whole en ⟨acc, .start⟩ (ts.drop k))) (fun _ i _ => ts.length - (intOf i).toNat)
  case atStart => exact ⟨0, [], none, 0, Nat.zero_le _, rfl, rfl, Nat.zero_le _, H0, by show _ = _; rw [List.drop_zero]; rfl⟩
  case round =>
    obtain ⟨k, acc, xo, xc, hk, rfl, rfl, ha, hx, hE⟩ := hrel
    clear H0
    obtain ⟨r0, r1, r2, rz0, rz1, rz2⟩ := cells_three hx.out.rb
    obtain ⟨p0, p1⟩ := cells_two hx.out.pb
    have hsz := hx.out.size
    have hz0 : w.heap.size < wr.heap.size := by omega
    have hz1 : w.heap.size + 1 < wr.heap.size := by omega
    by_cases hkl : k < ts.length
    · obtain ⟨b, o, rfl, hbw, hjk, hjl⟩ := HT.out k hkl
      clear hjk hjl
      obtain ⟨b', o', hbo, hj1, hj2, t0, t1, t2⟩ := (HT.out.later hx.out.below) k hkl
      cases hbo
      clear hj1 hj2
      have HD : Hid (ts.drop k = ts[k] :: ts.drop (k + 1)) := List.drop_eq_getElem_cons hkl
      have HPL : Hid (∀ (W : World), Below wr.heap.size wr W → _) := fun W hW => places_of (some ⟨b, o, none⟩) c ts en k ts[k].pos W ((HT.out.later (hx.out.below.trans (hW.mono hx.out.below.size)))).size (.inl ⟨hkl, rfl⟩)
      have hki : (k : Int) < (ts.length : Int) := by omega
      have hbr : b < wr.heap.size := Nat.lt_of_lt_of_le hbw hx.out.below.size
      generalize ts[k] = l at *
      obtain ⟨lk, lx, lp⟩ := l
      simp only at t0 t1 t2 HPL
      by_cases hl1 : lk = 1
      · subst hl1
        have E1 : Hid (Rd.alts ts en = Rd.whole en ⟨acc, .eq ⟨1, lx, lp⟩⟩ (ts.drop (k + 1))) := by show _ = _; rw [hE.out, HD.out, Rd.whole_ok (Rd.step_name rfl)]
        clear hE HD HPL
        have hx1 : Hid (XI w (wr.alloc (.cells #[.int .i64 1, .string lx, .int .i64 lp] 69)) (some ⟨b, o, none⟩) ts.length c en (.slice xo acc.length xc) acc) := hx.out.later ((Below.refl _ wr).alloc (Nat.le_refl _) _)
        have HL1 : Hid ((wr.alloc (.cells #[.int .i64 1, .string lx, .int .i64 lp] 69)).heap[wr.heap.size]? = some (.cells #[.int .i64 1, .string lx, .int .i64 lp] 69 (0, 0))) := heap_alloc_new wr _
        by_cases hk1 : k + 1 < ts.length
        · have hk1i : ((k : Int) + 1) < (ts.length : Int) := by omega
          obtain ⟨b', o', hbo, hj1, hj2, s0, s1, s2⟩ := (HT.out.later hx.out.below) (k + 1) hk1
          cases hbo
          clear hj1 hj2
          have HD : Hid (ts.drop (k + 1) = ts[k + 1] :: ts.drop (k + 1 + 1)) := List.drop_eq_getElem_cons hk1
          have HPL : Hid (∀ (W : World), Below wr.heap.size wr W → _) := fun W hW => places_of (some ⟨b, o, none⟩) c ts en (k + 1) ts[k + 1].pos W ((HT.out.later (hx.out.below.trans (hW.mono hx.out.below.size)))).size (.inl ⟨hk1, rfl⟩)
          generalize ts[k + 1] = y at *
          obtain ⟨yk, yx, yp⟩ := y
          simp only at s0 s1 s2 HPL
          rw [show ((k + 1 : Nat) : Int) = (k : Int) + 1 from by omega] at HPL
          by_cases hy3 : yk = 3
          · subst hy3
            have E2 : Hid (Rd.alts ts en = Rd.whole en ⟨acc, .body ⟨1, lx, lp⟩ []⟩ (ts.drop (k + 2))) := by show _ = _; rw [E1.out, HD.out, Rd.whole_ok (Rd.step_is rfl)]
            clear E1 HD HPL
            go_wp2_with fail
            have hlB : wr.heap.size < (wr.alloc (.cells #[.int .i64 1, .string lx, .int .i64 lp] 69)).heap.size := by simp
            have HBW1 : Hid (Below w.heap.size w (wr.alloc (.cells #[.int .i64 1, .string lx, .int .i64 lp] 69))) := hx1.out.below
            generalize (wr.alloc (.cells #[.int .i64 1, .string lx, .int .i64 lp] 69)) = W1 at *
            obtain ⟨L, hL⟩ : ∃ L, L = wr.heap.size := ⟨_, rfl⟩
            rw [← hL] at HL1 hlB ⊢
            have hbL : b < L := by rw [hL]; exact hbr
            have hwL : w.heap.size + 2 ≤ L := by rw [hL]; exact hsz
            clear hx r0 r1 r2 rz0 rz1 rz2 p0 p1 t0 t1 t2 s0 s1 s2 hbr hz0 hz1 hsz hL
            go_loopw [5, 6, 9] (fun v i mo wi => ∃ (j : Nat) (acc2 : List Rd.Al) (xo2 : Option Addr) (xc2 : Nat) (m : Bool), k < j ∧ j ≤ ts.length ∧ i = .int .i64 j ∧ v = .slice xo2 acc2.length xc2 ∧ mo = .bool m ∧ acc2.length ≤ 60 ∧
                Hid (XI w wi (some ⟨b, o, none⟩) ts.length c en (.slice xo2 acc2.length xc2) acc2) ∧ Hid (wi.heap[L]? = some (.cells #[.int .i64 1, .string lx, .int .i64 lp] 69 (0, 0))) ∧
                Hid (Rd.alts ts en = Rd.whole en (if m then ⟨acc2, .body ⟨1, lx, lp⟩ []⟩ else ⟨acc2, .start⟩) (ts.drop j))) (fun _ i _ _ => ts.length - (intOf i).toNat)
            case atStart => exact ⟨k + 2, acc, xo, xc, true, by omega, by omega, by go_num, rfl, rfl, ha, hx1, HL1, E2⟩
            case round =>
              obtain ⟨j, acc2, xo2, xc2, m, hj1, hj2, rfl, rfl, rfl, ha2, hx2, hlb2, hE2⟩ := hrel
              clear hx1 HL1 E2 HBW1 hlB
              obtain ⟨r0, r1, r2, rz0, rz1, rz2⟩ := cells_three hx2.out.rb
              obtain ⟨p0, p1⟩ := cells_two hx2.out.pb
              obtain ⟨l0, l1, l2, lz0, lz1, lz2⟩ := cells_three hlb2.out
              have hsz := hx2.out.size
              have hz0 : w.heap.size < wr.heap.size := by omega
              have hz1 : w.heap.size + 1 < wr.heap.size := by omega
              have hzL : L < wr.heap.size := (Array.getElem?_eq_some_iff.1 hlb2.out).1
              have hbr : b < wr.heap.size := Nat.lt_of_lt_of_le hbw hx2.out.below.size
              cases m
              · go_wp2_with fail
                go_roundw
                case rel => exact ⟨j, acc2, xo2, xc2, hj2, rfl, rfl, ha2, hx2, hE2⟩
                case measure => simp [intOf]; omega
              · have E3 : Hid (Rd.alts ts en = Rd.whole en ⟨acc2, .body ⟨1, lx, lp⟩ []⟩ (ts.drop j)) := hE2
                clear hE2
                go_wp2_with fail
                obtain ⟨ws, rfl⟩ : ∃ ws : World, ws = wr := ⟨_, rfl⟩
                go_loopw [6, 10] (fun i rv wi => ∃ (q : Nat) (R : List Rd.Tk) (ro : Option Addr) (rc : Nat), j ≤ q ∧ q ≤ ts.length ∧ i = .int .i64 q ∧ rv = .slice ro R.length rc ∧ Hid (R = (ts.take q).drop j) ∧ R.length ≤ 2000 ∧
                    Hid (Below ws.heap.size ws wi) ∧ Hid (wi.ownsRow ws.heap.size 69 3 (.slice ro R.length rc) R.length (tksCells R)) ∧
                    Hid (Rd.alts ts en = Rd.whole en ⟨acc2, .body ⟨1, lx, lp⟩ R⟩ (ts.drop q))) (fun i _ _ => ts.length - (intOf i).toNat)
                case atStart => exact ⟨j, [], none, 0, Nat.le_refl _, hj2, rfl, rfl, by show _ = _; rw [List.drop_eq_nil_of_le (by rw [List.length_take]; omega)], Nat.zero_le _, Below.refl _ _, World.ownsRow_nil _ _ _ _, E3⟩
                case round =>
                  obtain ⟨q, R, ro, rc, hq1, hq2, rfl, rfl, hR, hRl, hbi, hown, hE3⟩ := hrel
                  clear E3
                  have hx3 : Hid (XI w wr (some ⟨b, o, none⟩) ts.length c en (.slice xo2 acc2.length xc2) acc2) := hx2.out.later hbi.out
                  replace r0 := cell_later hbi.out r0
                  replace r1 := cell_later hbi.out r1
                  replace r2 := cell_later hbi.out r2
                  replace p0 := cell_later hbi.out p0
                  replace p1 := cell_later hbi.out p1
                  replace l0 := cell_later hbi.out l0
                  replace l1 := cell_later hbi.out l1
                  replace l2 := cell_later hbi.out l2
                  have gz0 : wr.frozen? ⟨w.heap.size, 0, none⟩ = false := (hbi.out.frozen (p := ⟨w.heap.size, 0, none⟩) hz0).trans rz0
                  have gz1 : wr.frozen? ⟨w.heap.size, 1, none⟩ = false := (hbi.out.frozen (p := ⟨w.heap.size, 1, none⟩) hz0).trans rz1
                  have gz2 : wr.frozen? ⟨w.heap.size, 2, none⟩ = false := (hbi.out.frozen (p := ⟨w.heap.size, 2, none⟩) hz0).trans rz2
                  have hsw := hbi.out.size
                  have yz0 : w.heap.size < wr.heap.size := by omega
                  have yz1 : w.heap.size + 1 < wr.heap.size := by omega
                  have yzL : L < wr.heap.size := by omega
                  have ybr : b < wr.heap.size := by omega
                  by_cases hql : q < ts.length
                  · obtain ⟨b', o', hbo, hj3, hj4, t0, t1, t2⟩ := (HT.out.later hx3.out.below) q hql
                    cases hbo
                    clear hj3 hj4
                    have HD : Hid (ts.drop q = ts[q] :: ts.drop (q + 1)) := List.drop_eq_getElem_cons hql
                    have HK : Hid ((ts.take (q + 1)).drop j = (ts.take q).drop j ++ [ts[q]]) := by
                      show _ = _
                      rw [List.take_add_one, List.getElem?_eq_getElem hql, List.drop_append_of_le_length (by rw [List.length_take]; omega)]; rfl
                    have HPL : Hid (∀ (W : World), Below wr.heap.size wr W → _) := fun W hW => places_of (some ⟨b, o, none⟩) c ts en q ts[q].pos W ((HT.out.later (hx3.out.below.trans (hW.mono hx3.out.below.size)))).size (.inl ⟨hql, rfl⟩)
                    have hqi : (q : Int) < (ts.length : Int) := by omega
                    generalize ts[q] = y at *
                    obtain ⟨yk, yx, yp⟩ := y
                    simp only at t0 t1 t2 HPL
                    by_cases hsy : yk = 1 ∨ yk = 2
                    · rcases hsy with hs | hs
                      · subst hs
                        have HN : Hid ((ts.take (q + 1)).drop j = R ++ [⟨1, yx, yp⟩]) := by show _ = _; rw [HK.out, hR.out]
                        have E4 : Hid (Rd.alts ts en = Rd.whole en ⟨acc2, .body ⟨1, lx, lp⟩ (R ++ [⟨1, yx, yp⟩])⟩ (ts.drop (q + 1))) := by show _ = _; rw [hE3.out, HD.out, Rd.whole_ok (Rd.step_sym (by simp))]
                        have hRq : R.length ≤ q := by rw [hR.out, List.length_drop, List.length_take]; omega
                        clear hE3 HD HK HPL
                        go_wp2_with (at_builtin; refine wpList_append_tks (by rfl) _ _ rfl ws.heap.size (.slice ro R.length rc) R.length (tksCells R) rfl (hown.out.alloc _) ⟨wr.heap.size, 0, none⟩ 1 1 (tksCells [⟨1, yx, yp⟩]) rfl rfl ?c1 ?c2 (by decide) ?c3 ?c4 ?_)
                        case c1 =>
                          have := World.news_of_block (cs := #[.int .i64 1, .string yx, .int .i64 yp]) (t := 69) (fr := (0, 0)) (heap_alloc_new wr (.cells #[.int .i64 1, .string yx, .int .i64 yp] 69))
                          first | exact this | exact fun j u h => h
                        case c2 => exact tksCells_one _
                        case c3 => omega
                        case c4 => first | omega | (simp; omega)
                        intro g3 cap3 w3 hown3 hgrow3
                        have HO3 : Hid (w3.ownsRow ws.heap.size 69 3 (.slice (some ⟨g3, 0, none⟩) (R ++ [(⟨1, yx, yp⟩ : Rd.Tk)]).length cap3) (R ++ [(⟨1, yx, yp⟩ : Rd.Tk)]).length (tksCells (R ++ [⟨1, yx, yp⟩]))) := by
                          show World.ownsRow _ _ _ _ _ _ _
                          rw [tksCells_append, show (R ++ [(⟨1, yx, yp⟩ : Rd.Tk)]).length = R.length + 1 from by simp]; exact hown3
                        have HB3 : Hid (Below ws.heap.size ws w3) := (hbi.out.alloc hbi.out.size _).grown hgrow3 (by simp; omega) (fun q hq => (hown.out.lt q hq).1)
                        clear hown3 hgrow3 hown hbi r0 r1 r2 p0 p1 l0 l1 l2 gz0 gz1 gz2 t0 t1 t2 hx3
                        go_wp2_with fail
                        go_roundw
                        case rel => exact ⟨q + 1, R ++ [⟨1, yx, yp⟩], some ⟨g3, 0, none⟩, cap3, by omega, by omega, by go_num, by simp, by show _ = _; rw [HN.out], by simp; omega, HB3, HO3, E4⟩
                        case measure => simp [intOf]; omega
                      · subst hs
                        have HN : Hid ((ts.take (q + 1)).drop j = R ++ [⟨2, yx, yp⟩]) := by show _ = _; rw [HK.out, hR.out]
                        have E4 : Hid (Rd.alts ts en = Rd.whole en ⟨acc2, .body ⟨1, lx, lp⟩ (R ++ [⟨2, yx, yp⟩])⟩ (ts.drop (q + 1))) := by show _ = _; rw [hE3.out, HD.out, Rd.whole_ok (Rd.step_sym (by simp))]
                        have hRq : R.length ≤ q := by rw [hR.out, List.length_drop, List.length_take]; omega
                        clear hE3 HD HK HPL
                        go_wp2_with (at_builtin; refine wpList_append_tks (by rfl) _ _ rfl ws.heap.size (.slice ro R.length rc) R.length (tksCells R) rfl (hown.out.alloc _) ⟨wr.heap.size, 0, none⟩ 1 1 (tksCells [⟨2, yx, yp⟩]) rfl rfl ?c1 ?c2 (by decide) ?c3 ?c4 ?_)
                        case c1 =>
                          have := World.news_of_block (cs := #[.int .i64 2, .string yx, .int .i64 yp]) (t := 69) (fr := (0, 0)) (heap_alloc_new wr (.cells #[.int .i64 2, .string yx, .int .i64 yp] 69))
                          first | exact this | exact fun j u h => h
                        case c2 => exact tksCells_one _
                        case c3 => omega
                        case c4 => first | omega | (simp; omega)
                        intro g3 cap3 w3 hown3 hgrow3
                        have HO3 : Hid (w3.ownsRow ws.heap.size 69 3 (.slice (some ⟨g3, 0, none⟩) (R ++ [(⟨2, yx, yp⟩ : Rd.Tk)]).length cap3) (R ++ [(⟨2, yx, yp⟩ : Rd.Tk)]).length (tksCells (R ++ [⟨2, yx, yp⟩]))) := by
                          show World.ownsRow _ _ _ _ _ _ _
                          rw [tksCells_append, show (R ++ [(⟨2, yx, yp⟩ : Rd.Tk)]).length = R.length + 1 from by simp]; exact hown3
                        have HB3 : Hid (Below ws.heap.size ws w3) := (hbi.out.alloc hbi.out.size _).grown hgrow3 (by simp; omega) (fun q hq => (hown.out.lt q hq).1)
                        clear hown3 hgrow3 hown hbi r0 r1 r2 p0 p1 l0 l1 l2 gz0 gz1 gz2 t0 t1 t2 hx3
                        go_wp2_with fail
                        go_roundw
                        case rel => exact ⟨q + 1, R ++ [⟨2, yx, yp⟩], some ⟨g3, 0, none⟩, cap3, by omega, by omega, by go_num, by simp, by show _ = _; rw [HN.out], by simp; omega, HB3, HO3, E4⟩
                        case measure => simp [intOf]; omega
                    · have hy1 : (yk == 1) = false := by simp; omega
                      have hy2 : (yk == 2) = false := by simp; omega
                      by_cases hbe : yk = 4 ∨ yk = 5
                      · rcases hbe with hs | hs
                        · subst hs
                          by_cases h60 : 60 ≤ acc2.length
                          · have h60d : (60 : Int) ≤ (acc2.length : Int) := by omega
                            have E4 : Hid (Rd.alts ts en = .error (14, lp)) := by show _ = _; rw [hE3.out, HD.out, Rd.whole_err (Rd.step_large (.inl rfl) (.inl h60))]
                            clear hE3 HD HK HPL
                            go_wp2_with fail
                            refine bodyPost_ret (v := .agg #[.slice none 0 0, .int .i64 14, .int .i64 lp]) (by simp [results, Try.results30, go_sem, r0, r1, r2]) rfl ?_
                            refine GE.out (14, lp) E4.out _ ?_
                            exact ((hx3.out.below.setCell (by exact Nat.le_refl _) _).setCell (by exact Nat.le_refl _) _).setCell (by exact Nat.le_refl _) _
                          · have h60d : ¬ (60 : Int) ≤ (acc2.length : Int) := by omega
                            have h60e : decide ((60 : Int) ≤ (acc2.length : Int)) = false := by simp; omega
                            by_cases h8 : 8 < R.length
                            · have h8d : (8 : Int) < (R.length : Int) := by omega
                              have E4 : Hid (Rd.alts ts en = .error (14, lp)) := by show _ = _; rw [hE3.out, HD.out, Rd.whole_err (Rd.step_large (.inl rfl) (.inr h8))]
                              clear hE3 HD HK HPL
                              go_wp2_with fail
                              refine bodyPost_ret (v := .agg #[.slice none 0 0, .int .i64 14, .int .i64 lp]) (by simp [results, Try.results30, go_sem, r0, r1, r2]) rfl ?_
                              refine GE.out (14, lp) E4.out _ ?_
                              exact ((hx3.out.below.setCell (by exact Nat.le_refl _) _).setCell (by exact Nat.le_refl _) _).setCell (by exact Nat.le_refl _) _
                            · have h8d : (R.length : Int) ≤ 8 := by omega
                              have E4 : Hid (Rd.alts ts en = Rd.whole en ⟨acc2 ++ [(⟨1, lx, lp⟩, R)], .body ⟨1, lx, lp⟩ []⟩ (ts.drop (q + 1))) := by show _ = _; rw [hE3.out, HD.out, Rd.whole_ok (Rd.step_bar rfl (by omega))]
                              obtain ⟨ps, hp1, hp2, hp3⟩ := hx3.out.own
                              have hpl : ps.length = acc2.length := by rw [← hp1, List.length_map]
                              rw [hpl] at hp2
                              have HP1 : Hid (ps.map (·.1) = acc2) := hp1
                              have HP2 : Hid (wr.ownsRow (w.heap.size + 2) 71 4 (.slice xo2 acc2.length xc2) acc2.length (alsCells ps)) := hp2
                              have HP3 : Hid _ := hp3
                              clear hp1 hp2 hp3 hpl hE3 HD HK HPL
                              go_wp2_with (at_builtin; refine wpList_append_als (by rfl) _ _ rfl (w.heap.size + 2) (.slice xo2 acc2.length xc2) acc2.length (alsCells ps) rfl (HP2.out.alloc _) ⟨wr.heap.size, 0, none⟩ 1 1 (alCells ((⟨1, lx, lp⟩, R), .slice ro R.length rc)) rfl rfl ?e1 ?e2 (by decide) ?e3 ?e4 ?_)
                              case e1 =>
                                have := World.news_of_block (cs := #[.int .i64 1, .string lx, .int .i64 lp, .slice ro R.length rc]) (t := 71) (fr := (0, 0)) (heap_alloc_new wr (.cells #[.int .i64 1, .string lx, .int .i64 lp, .slice ro R.length rc] 71))
                                first | exact this | exact fun j u h => h
                              case e2 => intro u hu; simp [alCells, tkCells] at hu; rcases hu with rfl | rfl | rfl | rfl <;> rfl
                              case e3 => omega
                              case e4 => first | omega | (simp; omega)
                              intro g5 cap5 w5 hown5 hgrow5
                              have HX5 : Hid (XI w w5 (some ⟨b, o, none⟩) ts.length c en (.slice (some ⟨g5, 0, none⟩) (acc2.length + 1) cap5) (acc2 ++ [(⟨1, lx, lp⟩, R)])) :=
                                (hx3.out.later ((Below.refl _ wr).alloc (Nat.le_refl _) _)).push HP1.out (HP2.out.alloc _) (fun p hp => (HP3.out p hp).alloc _) ((⟨1, lx, lp⟩, R), .slice ro R.length rc) ((ownsRow_from hown.out (by omega)).alloc _) hown5 hgrow5
                              have HL5 : Hid (w5.heap[L]? = some (.cells #[.int .i64 1, .string lx, .int .i64 lp] 69 (0, 0))) := by
                                show _ = _
                                have e4 : (wr.alloc (.cells #[.int .i64 1, .string lx, .int .i64 lp, .slice ro R.length rc] 71)).heap[L]? = some (.cells #[.int .i64 1, .string lx, .int .i64 lp] 69 (0, 0)) := by
                                  rw [Below.heap_alloc _ _ _ yzL, hbi.out.block _ hzL]; exact hlb2.out
                                rw [(KeptNA.of_row (B := wr.heap.size) hgrow5 (HP2.out.alloc _)).block _ (by simp; omega) (by omega) (by rw [e4]; intro cur f e; cases e)]
                                exact e4
                              clear hown5 hgrow5 HP1 HP2 HP3 hown hbi r0 r1 r2 p0 p1 l0 l1 l2 gz0 gz1 gz2 t0 t1 t2 hx3
                              go_wp2_with fail
                              go_roundw
                              case rel => exact ⟨q + 1, acc2 ++ [((⟨1, lx, lp⟩ : Rd.Tk), R)], some ⟨g5, 0, none⟩, cap5, true, by omega, by omega, by go_num, by simp, rfl, by simp; omega, by rw [show (acc2 ++ [((⟨1, lx, lp⟩, R) : Rd.Al)]).length = acc2.length + 1 from by simp]; exact HX5, HL5, by show _ = _; rw [if_pos rfl]; exact E4.out⟩
                              case measure => simp [intOf]; omega
                        · subst hs
                          by_cases h60 : 60 ≤ acc2.length
                          · have h60d : (60 : Int) ≤ (acc2.length : Int) := by omega
                            have E4 : Hid (Rd.alts ts en = .error (14, lp)) := by show _ = _; rw [hE3.out, HD.out, Rd.whole_err (Rd.step_large (.inr rfl) (.inl h60))]
                            clear hE3 HD HK HPL
                            go_wp2_with fail
                            refine bodyPost_ret (v := .agg #[.slice none 0 0, .int .i64 14, .int .i64 lp]) (by simp [results, Try.results30, go_sem, r0, r1, r2]) rfl ?_
                            refine GE.out (14, lp) E4.out _ ?_
                            exact ((hx3.out.below.setCell (by exact Nat.le_refl _) _).setCell (by exact Nat.le_refl _) _).setCell (by exact Nat.le_refl _) _
                          · have h60d : ¬ (60 : Int) ≤ (acc2.length : Int) := by omega
                            have h60e : decide ((60 : Int) ≤ (acc2.length : Int)) = false := by simp; omega
                            by_cases h8 : 8 < R.length
                            · have h8d : (8 : Int) < (R.length : Int) := by omega
                              have E4 : Hid (Rd.alts ts en = .error (14, lp)) := by show _ = _; rw [hE3.out, HD.out, Rd.whole_err (Rd.step_large (.inr rfl) (.inr h8))]
                              clear hE3 HD HK HPL
                              go_wp2_with fail
                              refine bodyPost_ret (v := .agg #[.slice none 0 0, .int .i64 14, .int .i64 lp]) (by simp [results, Try.results30, go_sem, r0, r1, r2]) rfl ?_
                              refine GE.out (14, lp) E4.out _ ?_
                              exact ((hx3.out.below.setCell (by exact Nat.le_refl _) _).setCell (by exact Nat.le_refl _) _).setCell (by exact Nat.le_refl _) _
                            · have h8d : (R.length : Int) ≤ 8 := by omega
                              have E4 : Hid (Rd.alts ts en = Rd.whole en ⟨acc2 ++ [(⟨1, lx, lp⟩, R)], .start⟩ (ts.drop (q + 1))) := by show _ = _; rw [hE3.out, HD.out, Rd.whole_ok (Rd.step_end rfl (by omega))]
                              obtain ⟨ps, hp1, hp2, hp3⟩ := hx3.out.own
                              have hpl : ps.length = acc2.length := by rw [← hp1, List.length_map]
                              rw [hpl] at hp2
                              have HP1 : Hid (ps.map (·.1) = acc2) := hp1
                              have HP2 : Hid (wr.ownsRow (w.heap.size + 2) 71 4 (.slice xo2 acc2.length xc2) acc2.length (alsCells ps)) := hp2
                              have HP3 : Hid _ := hp3
                              clear hp1 hp2 hp3 hpl hE3 HD HK HPL
                              go_wp2_with (at_builtin; refine wpList_append_als (by rfl) _ _ rfl (w.heap.size + 2) (.slice xo2 acc2.length xc2) acc2.length (alsCells ps) rfl (HP2.out.alloc _) ⟨wr.heap.size, 0, none⟩ 1 1 (alCells ((⟨1, lx, lp⟩, R), .slice ro R.length rc)) rfl rfl ?e1 ?e2 (by decide) ?e3 ?e4 ?_)
                              case e1 =>
                                have := World.news_of_block (cs := #[.int .i64 1, .string lx, .int .i64 lp, .slice ro R.length rc]) (t := 71) (fr := (0, 0)) (heap_alloc_new wr (.cells #[.int .i64 1, .string lx, .int .i64 lp, .slice ro R.length rc] 71))
                                first | exact this | exact fun j u h => h
                              case e2 => intro u hu; simp [alCells, tkCells] at hu; rcases hu with rfl | rfl | rfl | rfl <;> rfl
                              case e3 => omega
                              case e4 => first | omega | (simp; omega)
                              intro g5 cap5 w5 hown5 hgrow5
                              have HX5 : Hid (XI w w5 (some ⟨b, o, none⟩) ts.length c en (.slice (some ⟨g5, 0, none⟩) (acc2.length + 1) cap5) (acc2 ++ [(⟨1, lx, lp⟩, R)])) :=
                                (hx3.out.later ((Below.refl _ wr).alloc (Nat.le_refl _) _)).push HP1.out (HP2.out.alloc _) (fun p hp => (HP3.out p hp).alloc _) ((⟨1, lx, lp⟩, R), .slice ro R.length rc) ((ownsRow_from hown.out (by omega)).alloc _) hown5 hgrow5
                              have HL5 : Hid (w5.heap[L]? = some (.cells #[.int .i64 1, .string lx, .int .i64 lp] 69 (0, 0))) := by
                                show _ = _
                                have e4 : (wr.alloc (.cells #[.int .i64 1, .string lx, .int .i64 lp, .slice ro R.length rc] 71)).heap[L]? = some (.cells #[.int .i64 1, .string lx, .int .i64 lp] 69 (0, 0)) := by
                                  rw [Below.heap_alloc _ _ _ yzL, hbi.out.block _ hzL]; exact hlb2.out
                                rw [(KeptNA.of_row (B := wr.heap.size) hgrow5 (HP2.out.alloc _)).block _ (by simp; omega) (by omega) (by rw [e4]; intro cur f e; cases e)]
                                exact e4
                              clear hown5 hgrow5 HP1 HP2 HP3 hown hbi r0 r1 r2 p0 p1 l0 l1 l2 gz0 gz1 gz2 t0 t1 t2 hx3
                              go_wp2_with fail
                              go_roundw
                              case rel => exact ⟨q + 1, acc2 ++ [((⟨1, lx, lp⟩ : Rd.Tk), R)], some ⟨g5, 0, none⟩, cap5, false, by omega, by omega, by go_num, by simp, rfl, by simp; omega, by rw [show (acc2 ++ [((⟨1, lx, lp⟩, R) : Rd.Al)]).length = acc2.length + 1 from by simp]; exact HX5, HL5, by show _ = _; rw [if_neg (by decide)]; exact E4.out⟩
                              case measure => simp [intOf]; omega
                      · have hy4 : (yk != 4) = true := by simp; omega
                        have hy5 : (yk != 5) = true := by simp; omega
                        have E4 : Hid (Rd.alts ts en = .error (12, yp)) := by show _ = _; rw [hE3.out, HD.out, Rd.whole_err (Rd.step_other hsy hbe)]
                        clear hE3 HD HK hsy hbe
                        go_wp2_with fail
                        refine (HPL.out _ (Below.refl _ _)).mono ?_
                        rintro e w3 ⟨rfl, hb3⟩
                        obtain ⟨q0, q1, q2, qz0, qz1, qz2⟩ := cells_three (hx3.out.later hb3).rb
                        have hz3 := (hx3.out.later hb3).size
                        go_wp2_with fail
                        refine bodyPost_ret (v := .agg #[.slice none 0 0, .int .i64 12, .int .i64 yp]) (by simp [results, Try.results30, go_sem, q0, q1, q2]) rfl ?_
                        refine GE.out (12, yp) E4.out _ ?_
                        exact (((hx3.out.later hb3).below.setCell (by exact Nat.le_refl _) _).setCell (by exact Nat.le_refl _) _).setCell (by exact Nat.le_refl _) _
                  · have e : q = ts.length := by omega
                    subst e
                    clear hql
                    have hqd : decide ((ts.length : Int) < (ts.length : Int)) = false := by simp
                    have E4 : Hid (Rd.alts ts en = .error (12, en)) := by show _ = _; rw [hE3.out, List.drop_of_length_le (Nat.le_refl _)]; rfl
                    have HPL : Hid (∀ (W : World), Below wr.heap.size wr W → _) := fun W hW => places_of (some ⟨b, o, none⟩) c ts en ts.length en W ((HT.out.later (hx3.out.below.trans (hW.mono hx3.out.below.size)))).size (.inr ⟨Nat.le_refl _, rfl⟩)
                    clear hE3
                    go_wp2_with fail
                    refine (HPL.out _ (Below.refl _ _)).mono ?_
                    rintro e w3 ⟨rfl, hb3⟩
                    obtain ⟨q0, q1, q2, qz0, qz1, qz2⟩ := cells_three (hx3.out.later hb3).rb
                    have hz3 := (hx3.out.later hb3).size
                    go_wp2_with fail
                    refine bodyPost_ret (v := .agg #[.slice none 0 0, .int .i64 12, .int .i64 en]) (by simp [results, Try.results30, go_sem, q0, q1, q2]) rfl ?_
                    refine GE.out (12, en) E4.out _ ?_
                    exact (((hx3.out.later hb3).below.setCell (by exact Nat.le_refl _) _).setCell (by exact Nat.le_refl _) _).setCell (by exact Nat.le_refl _) _
          · have hyd : (yk != 3) = true := by simp [hy3]
            have E2 : Hid (Rd.alts ts en = .error (12, yp)) := by show _ = _; rw [E1.out, HD.out, Rd.whole_err (Rd.step_nois hy3)]
            clear E1 HD hy3
            go_wp2_with fail
            refine (HPL.out _ ((Below.refl _ wr).alloc (Nat.le_refl _) _)).mono ?_
            rintro e w3 ⟨rfl, hb3⟩
            obtain ⟨q0, q1, q2, qz0, qz1, qz2⟩ := cells_three (hx1.out.later hb3).rb
            have hz3 := (hx1.out.later hb3).size
            go_wp2_with fail
            refine bodyPost_ret (v := .agg #[.slice none 0 0, .int .i64 12, .int .i64 yp]) (by simp [results, Try.results30, go_sem, q0, q1, q2]) rfl ?_
            refine GE.out (12, yp) E2.out _ ?_
            exact (((hx1.out.later hb3).below.setCell (by exact Nat.le_refl _) _).setCell (by exact Nat.le_refl _) _).setCell (by exact Nat.le_refl _) _
        · have hk1i : ¬ ((k : Int) + 1) < (ts.length : Int) := by omega
          have hk1d : decide ((ts.length : Int) ≤ (k : Int) + 1) = true := by simp; omega
          have E2 : Hid (Rd.alts ts en = .error (12, en)) := by show _ = _; rw [E1.out, List.drop_of_length_le (by omega)]; rfl
          have HPL : Hid (∀ (W : World), Below wr.heap.size wr W → _) := fun W hW => places_of (some ⟨b, o, none⟩) c ts en (k + 1) en W ((HT.out.later (hx.out.below.trans (hW.mono hx.out.below.size)))).size (.inr ⟨by omega, rfl⟩)
          rw [show ((k + 1 : Nat) : Int) = (k : Int) + 1 from by omega] at HPL
          clear E1
          go_wp2_with fail
          refine (HPL.out _ ((Below.refl _ wr).alloc (Nat.le_refl _) _)).mono ?_
          rintro e w3 ⟨rfl, hb3⟩
          obtain ⟨q0, q1, q2, qz0, qz1, qz2⟩ := cells_three (hx1.out.later hb3).rb
          have hz3 := (hx1.out.later hb3).size
          go_wp2_with fail
          refine bodyPost_ret (v := .agg #[.slice none 0 0, .int .i64 12, .int .i64 en]) (by simp [results, Try.results30, go_sem, q0, q1, q2]) rfl ?_
          refine GE.out (12, en) E2.out _ ?_
          exact (((hx1.out.later hb3).below.setCell (by exact Nat.le_refl _) _).setCell (by exact Nat.le_refl _) _).setCell (by exact Nat.le_refl _) _
      · have hld : (lk != 1) = true := by simp [hl1]
        have E1 : Hid (Rd.alts ts en = .error (12, lp)) := by show _ = _; rw [hE.out, HD.out, Rd.whole_err (Rd.step_noname hl1)]
        clear hE HD hl1
        go_wp2_with (first | (go_at_call 61; refine (HPL.out _ (Below.refl _ _)).mono ?_; rintro e w3 ⟨rfl, hb3⟩; obtain ⟨q0, q1, q2, qz0, qz1, qz2⟩ := cells_three (hx.out.later hb3).rb; have hz3 := (hx.out.later hb3).size))
        refine bodyPost_ret (v := .agg #[.slice none 0 0, .int .i64 12, .int .i64 lp]) (by simp [results, Try.results30, go_sem, q0, q1, q2]) rfl ?_
        refine GE.out (12, lp) E1.out _ ?_
        exact (((hx.out.later hb3).below.setCell (by exact Nat.le_refl _) _).setCell (by exact Nat.le_refl _) _).setCell (by exact Nat.le_refl _) _
    · have e : k = ts.length := by omega
      subst e
      clear hkl
      have HPL : Hid (∀ (W : World), Below wr.heap.size wr W → _) := fun W hW => places_of ao c ts en ts.length en W ((HT.out.later (hx.out.below.trans (hW.mono hx.out.below.size)))).size (.inr ⟨Nat.le_refl _, rfl⟩)
      have hkd : decide ((ts.length : Int) < (ts.length : Int)) = false := by simp
      by_cases h0 : acc.length = 0
      · have h0d : ((acc.length : Int) == 0) = true := by simp [h0]
        have E1 : Hid (Rd.alts ts en = .error (12, en)) := by
          show _ = _
          rw [hE.out, List.drop_of_length_le (Nat.le_refl _), Rd.whole_nil]
          simp only [Rd.fin]; rw [if_pos h0]
        clear hE h0
        go_wp2_with (first | (go_at_call 61; refine (HPL.out _ (Below.refl _ _)).mono ?_; rintro e w3 ⟨rfl, hb3⟩; obtain ⟨q0, q1, q2, qz0, qz1, qz2⟩ := cells_three (hx.out.later hb3).rb; have hz3 := (hx.out.later hb3).size))
        refine bodyPost_ret (v := .agg #[.slice none 0 0, .int .i64 12, .int .i64 en]) (by simp [results, Try.results30, go_sem, q0, q1, q2]) rfl ?_
        refine GE.out (12, en) E1.out _ ?_
        exact (((hx.out.later hb3).below.setCell (by exact Nat.le_refl _) _).setCell (by exact Nat.le_refl _) _).setCell (by exact Nat.le_refl _) _
      · have h0d : ((acc.length : Int) == 0) = false := beq_eq_false_iff_ne.2 (by omega)
        have E1 : Hid (Rd.alts ts en = .ok acc) := by
          show _ = _
          rw [hE.out, List.drop_of_length_le (Nat.le_refl _), Rd.whole_nil]
          simp only [Rd.fin]; rw [if_neg h0]
        clear hE h0 HPL
        go_wp2_with fail
        refine bodyPost_ret (v := .agg #[.slice xo acc.length xc, .int .i64 0, .int .i64 0]) (by simp [results, Try.results30, go_sem, r0, r1, r2]) rfl ?_
        refine ⟨?_, .slice xo acc.length xc, ?_, ?_⟩
        · exact ((hx.out.below.setCell (by exact Nat.le_refl _) _).setCell (by exact Nat.le_refl _) _).setCell (by exact Nat.le_refl _) _
        · rw [Rd.altsG_ok E1.out]
        · rw [Rd.altsG_ok E1.out]
          have hlt : w.heap.size < w.heap.size + 2 := by omega
          exact (((hx.out.own.setCell (a := ⟨w.heap.size, 0, none⟩) hlt _).setCell (a := ⟨w.heap.size, 1, none⟩) hlt _).setCell (a := ⟨w.heap.size, 2, none⟩) hlt _).from (by omega)
end Go.Proofs.Ytnphfhoknnnciaa
