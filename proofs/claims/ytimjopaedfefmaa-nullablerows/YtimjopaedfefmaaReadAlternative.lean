/-
  Layer 2 (read): alternative: one alternative with the token behind it, or the fault that is thrown.
-/
import Derived.Test.YtimjopaedfefmaaReadAltOf
import Derived.Deep.LoopGhost
namespace Go.Proofs.Ytimjopaedfefmaa
open Go.RowKit

theorem Try.infoAlt : (Try.prog.info? 80).map (fun i => (i.zero, i.size, i.bytes)) = some (some (.agg #[.int .i64 0, .string ⟨#[]⟩, .int .i64 0, .slice none 0 0]), 4, 56) := by kernel_rfl

/-- blocks that are no rows of alternatives, but for one, are as they were -/
structure KeptNA (B : Nat) (w w' : World) : Prop where
  size : w.heap.size ≤ w'.heap.size
  block : ∀ k, k < w.heap.size → k ≠ B → (∀ cur f, w.heap[k]? ≠ some (.cells cur 80 f)) → w'.heap[k]? = w.heap[k]?

theorem KeptNA.of_grown {B : Nat} {w w' : World} (h : w.grownBy w' (some B)) : KeptNA B w w' := ⟨h.size, fun k hk hne _ => h.block k hk (fun e => hne (by cases e; rfl))⟩
theorem KeptNA.trans {B : Nat} {a b c : World} (h : KeptNA B a b) (h' : KeptNA B b c) : KeptNA B a c :=
  ⟨Nat.le_trans h.size h'.size, fun k hk hne hna => by
    have e := h.block k hk hne hna
    rw [h'.block k (Nat.lt_of_lt_of_le hk h.size) hne (by rw [e]; exact hna), e]⟩

theorem cells_three {w : World} {b : Nat} {x y z : Value} {t : TypeId} (h : w.heap[b]? = some (.cells #[x, y, z] t (0, 0))) :
    w.cell? ⟨b, 0, none⟩ = some x ∧ w.cell? ⟨b, 1, none⟩ = some y ∧ w.cell? ⟨b, 2, none⟩ = some z ∧ w.frozen? ⟨b, 0, none⟩ = false ∧ w.frozen? ⟨b, 1, none⟩ = false ∧ w.frozen? ⟨b, 2, none⟩ = false := by
  simp [World.cell?, World.frozen?, h]

theorem two_new (w : World) (x y : Value) (t : TypeId) : (w.alloc (.cells #[x, y] t)).cell? ⟨w.heap.size, 0, none⟩ = some x ∧ (w.alloc (.cells #[x, y] t)).cell? ⟨w.heap.size, 1, none⟩ = some y := by simp
theorem one_new (w : World) (x : Value) (t : TypeId) : (w.alloc (.cells #[x] t)).cell? ⟨w.heap.size, 0, none⟩ = some x := by simp

theorem RS.later {w : World} {B : Nat} {ao : Option Addr} {c : Nat} {ts : List Rd.Tk} {en : Int} {k : Nat} {xo : Option Addr} {xc : Nat} {acc : List Rd.Al}
    (h : RS w B ao c ts en k xo xc acc) (o : Obj) : RS (w.alloc o) B ao c ts en k xo xc acc := h.below ((Below.refl _ w).alloc (Nat.le_refl _) o)
theorem RS.drewN {w : World} {B : Nat} {ao : Option Addr} {c : Nat} {ts : List Rd.Tk} {en : Int} {k : Nat} {xo : Option Addr} {xc : Nat} {acc : List Rd.Al}
    (h : RS w B ao c ts en k xo xc acc) (n : Nat) : RS (w.drewN n) B ao c ts en k xo xc acc := h.below (below_drewN (Below.refl _ w) n)

theorem KeptNA.of_row {B base n : Nat} {w w' : World} {v : Value} {xs : List Value} (h : w.grownBy w' v.ownBlock) (ho : w.ownsRow base 80 4 v n xs) : KeptNA B w w' :=
  ⟨h.size, fun k hk _ hna => h.block k hk (fun e => by
    rcases ho.2 with ⟨rfl, _⟩ | ⟨g, cap, cur, rfl, _, hg, _⟩
    · cases e
    · have : k = g := by simpa [Value.ownBlock] using e
      subst this
      exact hna _ _ hg)⟩

theorem RS.grownBlk {w w1 : World} {B : Nat} {ao : Option Addr} {c : Nat} {ts : List Rd.Tk} {en : Int} {k : Nat} {xo : Option Addr} {xc : Nat} {acc : List Rd.Al}
    (h : RS w B ao c ts en k xo xc acc) (hg : w.grownBy w1 (Value.slice xo acc.length xc).ownBlock) {n : Nat} {xs : List Value} (h2 : w.ownsRow (B + 1) 80 4 (.slice xo acc.length xc) n xs) :
    w1.heap[B]? = some (.cells #[.slice ao ts.length c, .int .i64 en, .int .i64 k, .slice xo acc.length xc] 101 (0, 0)) := by
  rw [hg.block B h.lt (fun e => by have := (h2.lt _ e.symm).1; omega)]; exact h.blk

theorem RS.push {w w1 : World} {B : Nat} {ao : Option Addr} {c : Nat} {ts : List Rd.Tk} {en : Int} {k : Nat} {xo : Option Addr} {xc : Nat} {acc : List Rd.Al}
    (h : RS w B ao c ts en k xo xc acc) {ps : List (Rd.Al × Value)} (h1 : ps.map (·.1) = acc) (h2 : w.ownsRow (B + 1) 80 4 (.slice xo acc.length xc) ps.length (alsCells ps))
    (h3 : ∀ p ∈ ps, w.ownsRow (B + 1) 37 3 p.2 p.1.2.length (tksCells p.1.2)) (p : Rd.Al × Value) (hp : w.ownsRow (B + 1) 37 3 p.2 p.1.2.length (tksCells p.1.2)) {g cap : Nat}
    (ho : w1.ownsRow (B + 1) 80 4 (.slice (some ⟨g, 0, none⟩) (acc.length + 1) cap) (ps.length + 1) (alsCells ps ++ alCells p)) (hg : w.grownBy w1 (Value.slice xo acc.length xc).ownBlock) :
    RS (w1.setCell ⟨B, 3, none⟩ (.slice (some ⟨g, 0, none⟩) (acc.length + 1) cap)) B ao c ts en k (some ⟨g, 0, none⟩) cap (acc ++ [p.1]) where
  blk := by
    have e : w1.heap[B]? = some (.cells #[.slice ao ts.length c, .int .i64 en, .int .i64 k, .slice xo acc.length xc] 101 (0, 0)) := by
      rw [hg.block B h.lt (fun e => by have := (h2.lt _ e.symm).1; omega)]; exact h.blk
    simp [World.setCell, Array.getElem?_modify, e]
  toks := h.toks.later ((Below.refl B w).grown hg (Nat.le_of_lt h.lt) (fun q hq => by have := (h2.lt q hq).1; omega) |>.setCell (by exact Nat.le_refl _) _)
  own := by
    have e : (acc ++ [p.1]).length = acc.length + 1 := by simp
    rw [e]
    exact (AlsAt.push h1 h2 h3 p hp ho hg).setCell (by exact Nat.lt_succ_self _) _
  cap := h.cap

/-- what alternative comes to -/
def AltPost (w : World) (B : Nat) (ao : Option Addr) (c : Nat) (ts : List Rd.Tk) (en : Int) (k : Nat) (acc : List Rd.Al) (l : Rd.Tk) (e : Ending) (w' : World) : Prop :=
  Below B w w' ∧ KeptNA B w w' ∧ ((∃ er, Rd.whole en ⟨acc, .body l []⟩ (ts.drop k) = .error er ∧ e = thrown er) ∨
    (∃ (j : Nat) (r : List Rd.Tk) (xo : Option Addr) (xc : Nat), k < j ∧ j ≤ ts.length ∧ acc.length < 60 ∧ RS w' B ao c ts en j xo xc (acc ++ [(l, r)]) ∧
      ((e = .returned (.int .i64 4) ∧ Rd.whole en ⟨acc, .body l []⟩ (ts.drop k) = Rd.whole en ⟨acc ++ [(l, r)], .body l []⟩ (ts.drop j)) ∨
       (e = .returned (.int .i64 5) ∧ Rd.whole en ⟨acc, .body l []⟩ (ts.drop k) = Rd.whole en ⟨acc ++ [(l, r)], .start⟩ (ts.drop j)))))

set_option maxHeartbeats 1600000 in
theorem alternative_any (w : World) (B : Nat) (ao : Option Addr) (c : Nat) (ts : List Rd.Tk) (en : Int) (k : Nat) (xo : Option Addr) (xc : Nat) (acc : List Rd.Al) (l : Rd.Tk)
    (hl : ts.length ≤ 2000) (hx : ∀ t ∈ ts, t.text.size ≤ 281474976710656) (hlx : l.text.size ≤ 281474976710656) (h0 : 0 < ts.length) (hk : k ≤ ts.length) (hacc : acc.length ≤ 60) (h : RS w B ao c ts en k xo xc acc) :
    Calls Try.prog 96 #[.pointer (some ⟨B, 0, none⟩), tkVal l] w (AltPost w B ao c ts en k acc l) := by
  obtain ⟨r0, r1, r2, r3, z0, z1, z2, z3⟩ := cells_four h.blk
  have hlt := h.lt
  obtain ⟨b, o, rfl, hbB, hbw, hjunk⟩ := h.toks 0 h0
  clear hjunk
  have HR : Hid (RS w B (some ⟨b, o, none⟩) c ts en k xo xc acc) := h
  have hcap := h.cap
  unfold maxLen at hcap
  clear h
  obtain ⟨iA, hi, hz0, hz1, hz2⟩ := info_parts Try.infoAlt
  have HI : Hid (Try.prog.info? 80 = some iA ∧ iA.zero = some (.agg #[.int .i64 0, .string ⟨#[]⟩, .int .i64 0, .slice none 0 0]) ∧ iA.size = 4 ∧ iA.bytes = 56) := ⟨hi, hz0, hz1, hz2⟩
  clear hi hz0 hz1 hz2
  have HX : Hid _ := hx
  clear hx
  have HAO : Hid (∀ (r : List Rd.Tk) (ao : Option Addr) (c : Nat) (w : World), r.length ≤ 8 → (∀ t ∈ r, t.text.size ≤ 281474976710656) → TksAt w.heap.size w ao r → _) := fun r ao c w h1 h2 h3 => altOf_any l r ao c w h1 hlx h2 h3
  obtain ⟨lk, lx, lp⟩ := l
  unfold tkVal at *
  simp only at hlx HAO ⊢
  go_enter Try.func96, Try.ntmps96
  go_wp2_with fail
  have H0 : Hid (RS (w.alloc (.cells #[.int .i64 lk, .string lx, .int .i64 lp] 37)) B (some ⟨b, o, none⟩) c ts en k xo xc acc) := HR.out.later _
  have hb0 : w.heap.size < (w.alloc (.cells #[.int .i64 lk, .string lx, .int .i64 lp] 37)).heap.size := by simp
  have HB0 : Hid ((w.alloc (.cells #[.int .i64 lk, .string lx, .int .i64 lp] 37)).heap[w.heap.size]? = some (.cells #[.int .i64 lk, .string lx, .int .i64 lp] 37 (0, 0))) := heap_alloc_new w _
  have HG0 : Hid (w.grownBy (w.alloc (.cells #[.int .i64 lk, .string lx, .int .i64 lp] 37)) (some B)) := grown_of_below ((Below.refl _ w).alloc (Nat.le_refl _) _)
  generalize (w.alloc (.cells #[.int .i64 lk, .string lx, .int .i64 lp] 37)) = W0 at *
  go_loopg [] (ts.length - k) (fun m wr => ∃ j : Nat, k ≤ j ∧ j + m = ts.length ∧ Hid (RS wr B (some ⟨b, o, none⟩) c ts en j xo xc acc) ∧ Hid (W0.grownBy wr (some B)) ∧
      Hid (Rd.whole en ⟨acc, .body ⟨lk, lx, lp⟩ []⟩ (ts.drop k) = Rd.whole en ⟨acc, .body ⟨lk, lx, lp⟩ ((ts.take j).drop k)⟩ (ts.drop j)))
  case atStart => exact ⟨k, Nat.le_refl _, by omega, H0, grown_of_below (Below.refl _ _), by show _ = _; rw [show (ts.take k).drop k = [] from List.drop_eq_nil_of_le (by rw [List.length_take]; omega)]⟩
  case round =>
    obtain ⟨j, hj1, hj2, hrs, hgr, hE⟩ := hrel
    clear r0 r1 r2 r3 z0 z1 z2 z3 H0
    obtain ⟨r0, r1, r2, r3, z0, z1, z2, z3⟩ := cells_four hrs.out.blk
    have hltr := hrs.out.lt
    by_cases hjl : j < ts.length
    · obtain ⟨b', o', hbo, hj3, hj4, t0, t1, t2⟩ := hrs.out.toks j hjl
      clear hj3 hj4
      cases hbo
      have HD : Hid (ts.drop j = ts[j] :: ts.drop (j + 1)) := List.drop_eq_getElem_cons hjl
      have HK : Hid ((ts.take (j + 1)).drop k = (ts.take j).drop k ++ [ts[j]]) := by
        show _ = _
        rw [List.take_add_one, List.getElem?_eq_getElem hjl, List.drop_append_of_le_length (by rw [List.length_take]; omega)]; rfl
      have hne : b ≠ B := by omega
      generalize hy : ts[j] = y at t0 t1 t2 HD HK
      have HY : Hid (ts[j] = y) := hy
      clear hy
      obtain ⟨yk, yx, yp⟩ := y
      simp only at t0 t1 t2
      have hji : ((j : Int) < (ts.length : Int)) := by omega
      cases hsy : decide (yk = 1 ∨ yk = 2)
      · go_wp2_with fail
        go_quiet (first | (go_at_call 99; exact Calls.quiet_of_same (isSymbol_is _ _ _ hsy)))
        go_wp2_with fail
        have k1 : (0 : Int) ≤ (k : Int) := by omega
        have k2 : (k : Int) ≤ (j : Int) := by omega
        have k3 : (j : Int) ≤ (c : Int) := by omega
        go_quiet (fail)
        go_wp2_with fail
        have hLk : W0.heap[w.heap.size]? = some (.cells #[.int .i64 lk, .string lx, .int .i64 lp] 37 (0, 0)) := HB0.out
        refine (take_any [4, 5] (by decide) wr.heap.size _ B _ c ts en j xo xc acc hl (by omega) ((hrs.out.drewN _).later _) ?_).mono ?_
        · intro i hi
          match i, hi with
          | 0, _ => exact (two_new (wr.drewN _) _ _ _).1
          | 1, _ => exact (two_new (wr.drewN _) _ _ _).2
        rintro e w2 ⟨hg2, (⟨hbad, _⟩ | ⟨h', hno, rfl⟩) | ⟨h', hyes, rfl, hrs2⟩⟩
        · omega
        · have E : Hid (Rd.whole en ⟨acc, .body ⟨lk, lx, lp⟩ []⟩ (ts.drop k) = .error (12, yp)) := by
            show _ = _
            rw [HY.out] at hno
            rw [hE.out, HD.out, Rd.whole_err (Rd.step_other (by simpa using hsy) (by simpa using hno))]
          rw [HY.out]
          have HGW : Hid (W0.grownBy w2 (some B)) := grown_trans hgr.out (grown_trans (grown_of_below ((below_drewN (Below.refl _ _) _).alloc (by simp) _)) hg2)
          unfold thrown
          go_wp2_with fail
          have HGF := grown_trans HG0.out HGW.out
          exact ⟨rfl, below_of_grown HGF (Nat.le_of_lt hlt), .of_grown HGF, .inl ⟨_, E.out, rfl⟩⟩
        · rw [HY.out] at hyes ⊢
          have HRS2 : Hid _ := hrs2
          have HGW : Hid (W0.grownBy w2 (some B)) := grown_trans hgr.out (grown_trans (grown_of_below ((below_drewN (Below.refl _ _) _).alloc (by simp) _)) hg2)
          have hW2 : w.heap.size < w2.heap.size := Nat.lt_of_lt_of_le hb0 HGW.out.size
          have hl2 : w2.heap[w.heap.size]? = some (.cells #[.int .i64 lk, .string lx, .int .i64 lp] 37 (0, 0)) := by
            rw [HGW.out.block _ hb0 (fun e => by cases e; omega)]; exact hLk
          obtain ⟨l0, l1, l2, lz0, lz1, lz2⟩ := cells_three hl2
          clear r0 r1 r2 r3 z0 z1 z2 z3 hrs hg2 hgr t0 t1 t2
          obtain ⟨r0, r1, r2, r3, z0, z1, z2, z3⟩ := cells_four hrs2.blk
          have hlt2 := hrs2.lt
          clear hrs2
          unfold tkVal
          simp only
          have hy45 : yk = 4 ∨ yk = 5 := by simpa using hyes
          have HGF : Hid (w.grownBy w2 (some B)) := grown_trans HG0.out HGW.out
          clear HG0 HGW HR HB0 hLk hl2 hyes
          by_cases h60 : acc.length = 60
          · have q60 : ((acc.length : Int) == 60) = true := by simp [h60]
            have E : Hid (Rd.whole en ⟨acc, .body ⟨lk, lx, lp⟩ []⟩ (ts.drop k) = .error (14, lp)) := by
              show _ = _
              rw [hE.out, HD.out, Rd.whole_err (Rd.step_large (by simpa using hy45) (by omega))]
            clear h60 hy45
            go_wp2_with (go_at_call 98; refine (rthrow_any _ _ _).mono ?_; rintro e w3 ⟨rfl, rfl⟩)
            have G := grown_trans HGF.out (grown_of_below (r := some B) ((Below.refl _ w2).alloc (Nat.le_refl _) (.cells #[.int .i64 yk, .string yx, .int .i64 yp] 37)))
            exact ⟨rfl, below_of_grown G (Nat.le_of_lt hlt), .of_grown G, .inl ⟨_, E.out, rfl⟩⟩
          · have q60 : ((acc.length : Int) == 60) = false := by simp; omega
            have HLr : Hid (((ts.take j).drop k).length = j - k) := by show _ = _; rw [List.length_drop, List.length_take]; omega
            by_cases h8 : 8 < j - k
            · have d8 : (8 : Int) < ((j - k : Nat) : Int) := by omega
              have E : Hid (Rd.whole en ⟨acc, .body ⟨lk, lx, lp⟩ []⟩ (ts.drop k) = .error (14, lp)) := by
                show _ = _
                rw [hE.out, HD.out, Rd.whole_err (Rd.step_large (by simpa using hy45) (by rw [HLr.out]; omega))]
              clear h60 hy45
              go_wp2_with (go_at_call 98; refine (rthrow_any _ _ _).mono ?_; rintro e w3 ⟨rfl, rfl⟩)
              have G := grown_trans HGF.out (grown_of_below (r := some B) ((Below.refl _ w2).alloc (Nat.le_refl _) (.cells #[.int .i64 yk, .string yx, .int .i64 yp] 37)))
              exact ⟨rfl, below_of_grown G (Nat.le_of_lt hlt), .of_grown G, .inl ⟨_, E.out, rfl⟩⟩
            · have d8 : ((j - k : Nat) : Int) ≤ 8 := by omega
              obtain ⟨r, Hr⟩ : ∃ r, Hid ((ts.take j).drop k = r) := ⟨_, rfl⟩
              have hr8 : r.length ≤ 8 := by rw [← Hr.out, HLr.out]; omega
              have Hrl : Hid (r.length = j - k) := by show _ = _; rw [← Hr.out, HLr.out]
              have HXr : Hid (∀ t ∈ r, t.text.size ≤ 281474976710656) := fun t ht => HX.out t (by rw [← Hr.out] at ht; exact List.mem_of_mem_take (List.mem_of_mem_drop ht))
              have HCall := fun (W : World) (c : Nat) (h : TksAt W.heap.size W (some ⟨b, o + k * 3, none⟩) r) => HAO.out r (some ⟨b, o + k * 3, none⟩) c W hr8 HXr.out h
              rw [Hrl.out] at HCall
              have HC : Hid _ := HCall
              clear HCall
              have HTr : Hid (TksAt B w2 (some ⟨b, o + k * 3, none⟩) r) := by
                have := HRS2.out.toks.part k j
                rwa [Hr.out] at this
              have E4 : Hid (yk = 4 → Rd.whole en ⟨acc, .body ⟨lk, lx, lp⟩ []⟩ (ts.drop k) = Rd.whole en ⟨acc ++ [(⟨lk, lx, lp⟩, r)], .body ⟨lk, lx, lp⟩ []⟩ (ts.drop (j + 1))) := fun h => by
                rw [hE.out, HD.out, Hr.out, Rd.whole_ok (Rd.step_bar h (by omega))]
              have E5 : Hid (yk = 5 → Rd.whole en ⟨acc, .body ⟨lk, lx, lp⟩ []⟩ (ts.drop k) = Rd.whole en ⟨acc ++ [(⟨lk, lx, lp⟩, r)], .start⟩ (ts.drop (j + 1))) := fun h => by
                rw [hE.out, HD.out, Hr.out, Rd.whole_ok (Rd.step_end h (by omega))]
              have HB3 : Hid (Below w2.heap.size w2 (w2.alloc (.cells #[.int .i64 yk, .string yx, .int .i64 yp] 37))) := (Below.refl _ w2).alloc (Nat.le_refl _) _
              have HN3 : Hid ((w2.alloc (.cells #[.int .i64 yk, .string yx, .int .i64 yp] 37)).heap[w2.heap.size]? = some (.cells #[.int .i64 yk, .string yx, .int .i64 yp] 37 (0, 0))) := heap_alloc_new w2 _
              have hs3 : w2.heap.size < (w2.alloc (.cells #[.int .i64 yk, .string yx, .int .i64 yp] 37)).heap.size := by simp
              clear hE HD HK HAO HXr Hr HLr HY hsy
              go_wp2_with fail
              generalize (w2.alloc (.cells #[.int .i64 yk, .string yx, .int .i64 yp] 37)) = W3 at *
              have HR3 : Hid _ := HRS2.out.below HB3.out
              replace r0 := cell_later HB3.out r0
              replace r3 := cell_later HB3.out r3
              replace l0 := cell_later HB3.out l0
              replace l1 := cell_later HB3.out l1
              replace l2 := cell_later HB3.out l2
              have hlt3 := HR3.out.lt
              clear r1 r2 z0 z1 z2 z3 lz0 lz1 lz2
              have HCALL : Hid (Calls Try.prog 100 #[.agg #[.int .i64 lk, .string lx, .int .i64 lp], .slice (some ⟨b, o + k * 3, none⟩) (j - k) (c - k)] W3.drew fun e w4 => ∃ zo zn zc ps, e = .returned (.agg #[.int .i64 lk, .string lx, .int .i64 lp, .slice zo zn zc]) ∧
                  Hid (RS w4 B (some ⟨b, o, none⟩) c ts en (j + 1) xo xc acc) ∧ Hid (ps.length = acc.length) ∧ Hid (ps.map (·.1) = acc) ∧ Hid (w4.ownsRow (B + 1) 80 4 (.slice xo acc.length xc) acc.length (alsCells ps)) ∧
                  Hid (∀ p ∈ ps, w4.ownsRow (B + 1) 37 3 p.2 p.1.2.length (tksCells p.1.2)) ∧ Hid (w4.ownsRow (B + 1) 37 3 (.slice zo zn zc) r.length (tksCells r)) ∧ Hid (Below W3.heap.size W3 w4)) := by
                refine (HC.out W3.drew (c - k) ((HTr.out.later (HB3.out.mono (Nat.le_of_lt hlt2))).size.later (Below.refl _ W3).drew)).mono ?_
                rintro e w4 ⟨zo, zn, zc, rfl, hb4, hown4⟩
                have HR4 := (HR3.out.below (Below.refl _ W3).drew).below hb4
                obtain ⟨ps, hp1, hp2, hp3⟩ := HR4.own
                have HPL : ps.length = acc.length := by rw [← hp1, List.length_map]
                rw [HPL] at hp2
                exact ⟨zo, zn, zc, ps, rfl, HR4, HPL, hp1, hp2, hp3, ownsRow_from (by rw [Hrl.out]; exact hown4) (by show B + 1 ≤ W3.heap.size; omega), (Below.refl _ W3).drew.trans hb4⟩
              go_region_law
                (first
                  | (go_simp; go_at_call 100; refine HCALL.out.mono ?_; rintro e w4 ⟨zo, zn, zc, ps, rfl, HR4, HPL, HP1, HP2, HP3, HO4, HB4⟩; obtain ⟨d0, d1, d2, d3, dz0, dz1, dz2, dz3⟩ := cells_four HR4.out.blk; have hlt4 := HR4.out.lt)
                  | (refine step_append_lies _ (by rfl) _ _ _ (by rfl) (B + 1) 80 iA _ 4 56 Try.underlying60 HI.out.1 HI.out.2.1 HI.out.2.2.1 HI.out.2.2.2 rfl (by omega) (.slice xo acc.length xc) acc.length (alsCells ps) (by rfl) (HP2.out.alloc _) ⟨w4.heap.size, 0, none⟩ 1 1 [.int .i64 lk, .string lx, .int .i64 lp, .slice zo zn zc] (by rfl) (by rfl) (World.news_of_block (cs := #[.int .i64 lk, .string lx, .int .i64 lp, .slice zo zn zc]) (t := 80) (fr := (0, 0)) (heap_alloc_new w4 _)) (by simp [Value.oneCell']) (by omega) (by unfold maxLen; omega) (by omega) (by simp; omega) (w4.heap.size + 1) (by simp) ?_; intro g cap w5 hown5 hgrow hat hlt5; obtain ⟨q0, q1, q2, q3, qz0, qz1, qz2, qz3⟩ := cells_four ((HR4.out.later _).grownBlk hgrow (HP2.out.alloc _))))
              all_goals
                have hb5 : w5.heap[w2.heap.size]? = some (.cells #[.int .i64 yk, .string yx, .int .i64 yp] 37 (0, 0)) := by
                  have e4 : (w4.alloc (.cells #[.int .i64 lk, .string lx, .int .i64 lp, .slice zo zn zc] 80)).heap[w2.heap.size]? = some (.cells #[.int .i64 yk, .string yx, .int .i64 yp] 37 (0, 0)) := by
                    rw [Below.heap_alloc _ _ _ (Nat.lt_of_lt_of_le hs3 HB4.out.size), HB4.out.block _ hs3]; exact HN3.out
                  rw [(KeptNA.of_row (B := B) hgrow (HP2.out.alloc _)).block _ (by have := HB4.out.size; simp; omega) (by omega) (by rw [e4]; intro cur f e; cases e)]
                  exact e4
                have HPU : Hid (RS (w5.setCell ⟨B, 3, none⟩ (.slice (some ⟨g, 0, none⟩) (acc.length + 1) cap)) B (some ⟨b, o, none⟩) c ts en (j + 1) (some ⟨g, 0, none⟩) cap (acc ++ [(⟨lk, lx, lp⟩, r)])) :=
                  (HR4.out.later _).push HP1.out (by rw [HPL.out]; exact HP2.out.alloc _) (fun q hq => (HP3.out q hq).alloc _) ((⟨lk, lx, lp⟩, r), .slice zo zn zc) (HO4.out.alloc _) (by rw [HPL.out]; exact hown5) hgrow
                have HBB : Hid (Below B w (w5.setCell ⟨B, 3, none⟩ (.slice (some ⟨g, 0, none⟩) (acc.length + 1) cap))) := by
                  have x1 : Below B w W3 := (below_of_grown HGF.out (Nat.le_of_lt hlt)).trans (HB3.out.mono (Nat.le_of_lt hlt2))
                  have x2 : Below B w (w4.alloc (.cells #[.int .i64 lk, .string lx, .int .i64 lp, .slice zo zn zc] 80)) := (x1.trans (HB4.out.mono (Nat.le_of_lt hlt3))).alloc (Nat.le_of_lt hlt4) _
                  exact (x2.grown hgrow (by have := hlt4; simp; omega) (fun q hq => by have := (HP2.out.lt q hq).1; omega)).setCell (by exact Nat.le_refl _) _
                have HNA : Hid (KeptNA B w (w5.setCell ⟨B, 3, none⟩ (.slice (some ⟨g, 0, none⟩) (acc.length + 1) cap))) := by
                  have x2 : w.grownBy (w4.alloc (.cells #[.int .i64 lk, .string lx, .int .i64 lp, .slice zo zn zc] 80)) (some B) :=
                    grown_trans HGF.out (grown_trans (grown_of_below HB3.out) (grown_trans (grown_of_below HB4.out) (grown_of_below ((Below.refl _ _).alloc (Nat.le_refl _) _))))
                  exact ((KeptNA.of_grown x2).trans (KeptNA.of_row hgrow (HP2.out.alloc _))).trans (KeptNA.of_grown (grown_set _ B 3 _))
                obtain ⟨y0, y1, y2, yz0, yz1, yz2⟩ := cells_three hb5
                have hneB : w2.heap.size ≠ B := by omega
                clear hgrow hown5 hb5 d0 d1 d2 d3 dz0 dz1 dz2 dz3 q0 q1 q2 q3 qz0 qz1 qz2 qz3 r0 r3 l0 l1 l2
                go_wp2_with fail
                go_ret
                refine ⟨HBB.out, HNA.out, .inr ⟨j + 1, r, _, _, by omega, by omega, by omega, HPU.out, ?_⟩⟩
                rcases hy45 with rfl | rfl
                · exact .inl ⟨rfl, E4.out rfl⟩
                · exact .inr ⟨rfl, E5.out rfl⟩
      · have R : Hid (Rd.whole en ⟨acc, .body ⟨lk, lx, lp⟩ []⟩ (ts.drop k) = Rd.whole en ⟨acc, .body ⟨lk, lx, lp⟩ ((ts.take (j + 1)).drop k)⟩ (ts.drop (j + 1))) := by
          show _ = _
          rw [hE.out, HD.out, Rd.whole_ok (Rd.step_sym (by simpa using hsy)), HK.out]
        clear hE HD HK
        go_wp2_with fail
        go_quiet (first | (go_at_call 99; exact Calls.quiet_of_same (isSymbol_is _ _ _ hsy)))
        go_wp2_with fail
        go_roundg (ts.length - (j + 1))
        case rel =>
          rw [show ((j : Int) + 1) = ((j + 1 : Nat) : Int) from by omega]
          exact ⟨j + 1, by omega, by omega, (hrs.out.drewN nq).step (j + 1), grown_trans hgr.out (grown_trans (grown_of_below (below_drewN (Below.refl _ _) nq)) (grown_set _ B 2 _)), R⟩
        case measure => omega
    · have e : j = ts.length := by omega
      subst e
      have hji : decide ((ts.length : Int) < (ts.length : Int)) = false := by simp
      have k1 : (0 : Int) ≤ (k : Int) := by omega
      have k2 : (k : Int) ≤ (ts.length : Int) := by omega
      have k3 : (ts.length : Int) ≤ (c : Int) := by omega
      have E : Hid (Rd.whole en ⟨acc, .body ⟨lk, lx, lp⟩ []⟩ (ts.drop k) = .error (12, en)) := by
        show _ = _
        rw [hE.out, List.drop_of_length_le (Nat.le_refl _)]; rfl
      clear hE hjl
      rcases Nat.lt_or_ge k c with hkc | hkc
      · have hkc' : ¬ c = k := by omega
        go_wp2_with fail
        go_quiet (fail)
        go_wp2_with fail
        go_quiet (fail)
        go_wp2_with fail
        refine (take_any [4, 5] (by decide) wr.heap.size _ B _ _ ts en ts.length xo xc acc hl (Nat.le_refl _) ((hrs.out.drewN _).later _) ?_).mono ?_
        · intro i hi
          match i, hi with
          | 0, _ => exact (two_new (wr.drewN _) _ _ _).1
          | 1, _ => exact (two_new (wr.drewN _) _ _ _).2
        rintro e w2 ⟨hg2, (⟨_, rfl⟩ | ⟨h', _⟩) | ⟨h', _⟩⟩
        · have HGW : Hid (W0.grownBy w2 (some B)) := grown_trans hgr.out (grown_trans (grown_of_below ((below_drewN (Below.refl _ _) _).alloc (by simp) _)) hg2)
          unfold thrown
          go_wp2_with fail
          have HGF := grown_trans HG0.out HGW.out
          exact ⟨rfl, below_of_grown HGF (Nat.le_of_lt hlt), .of_grown HGF, .inl ⟨_, E.out, rfl⟩⟩
        · exact absurd h' (Nat.lt_irrefl _)
        · exact absurd h' (Nat.lt_irrefl _)
      · have e : k = c := by omega
        subst e
        go_wp2_with fail
        go_quiet (fail)
        go_wp2_with fail
        go_quiet (fail)
        go_wp2_with fail
        refine (take_any [4, 5] (by decide) wr.heap.size _ B _ _ ts en ts.length xo xc acc hl (Nat.le_refl _) ((hrs.out.drewN _).later _) ?_).mono ?_
        · intro i hi
          match i, hi with
          | 0, _ => exact (two_new (wr.drewN _) _ _ _).1
          | 1, _ => exact (two_new (wr.drewN _) _ _ _).2
        rintro e w2 ⟨hg2, (⟨_, rfl⟩ | ⟨h', _⟩) | ⟨h', _⟩⟩
        · have HGW : Hid (W0.grownBy w2 (some B)) := grown_trans hgr.out (grown_trans (grown_of_below ((below_drewN (Below.refl _ _) _).alloc (by simp) _)) hg2)
          unfold thrown
          go_wp2_with fail
          have HGF := grown_trans HG0.out HGW.out
          exact ⟨rfl, below_of_grown HGF (Nat.le_of_lt hlt), .of_grown HGF, .inl ⟨_, E.out, rfl⟩⟩
        · exact absurd h' (Nat.lt_irrefl _)
        · exact absurd h' (Nat.lt_irrefl _)
end Go.Proofs.Ytimjopaedfefmaa
