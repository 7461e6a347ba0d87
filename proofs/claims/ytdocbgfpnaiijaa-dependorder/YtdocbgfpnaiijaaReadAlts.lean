/-
  Layer 2 (read): alternative: one alternative with the token behind it, or the fault that is thrown.
  Layer 2 (read): definition, definitions: all definitions, or the fault that is thrown.
  Layer 2 (read): Alts: the alternatives of any tokens, or the fault.
  Layer 2 (read): what alternatives in memory read as, and layer 1's tokens as layer 2's.
-/
import Derived.Test.YtdocbgfpnaiijaaReadLib
import Derived.Deep.LoopGhost
namespace Go.Proofs.Ytdocbgfpnaiijaa
open Go.RowKit

theorem Try.infoAlt : (Try.prog.info? 104).map (fun i => (i.zero, i.size, i.bytes)) = some (some (.agg #[.int .i64 0, .string ⟨#[]⟩, .int .i64 0, .slice none 0 0]), 4, 56) := by kernel_rfl

/-- blocks that are no rows of alternatives, but for one, are as they were -/
structure KeptNA (B : Nat) (w w' : World) : Prop where
  size : w.heap.size ≤ w'.heap.size
  block : ∀ k, k < w.heap.size → k ≠ B → (∀ cur f, w.heap[k]? ≠ some (.cells cur 104 f)) → w'.heap[k]? = w.heap[k]?

theorem KeptNA.of_grown {B : Nat} {w w' : World} (h : w.grownBy w' (some B)) : KeptNA B w w' := ⟨h.size, fun k hk hne _ => h.block k hk (fun e => hne (by cases e; rfl))⟩
theorem KeptNA.trans {B : Nat} {a b c : World} (h : KeptNA B a b) (h' : KeptNA B b c) : KeptNA B a c :=
  ⟨Nat.le_trans h.size h'.size, fun k hk hne hna => by
    have e := h.block k hk hne hna
    rw [h'.block k (Nat.lt_of_lt_of_le hk h.size) hne (by rw [e]; exact hna), e]⟩

theorem cells_three {w : World} {b : Nat} {x y z : Value} {t : TypeId} (h : w.heap[b]? = some (.cells #[x, y, z] t (0, 0))) :
    w.cell? ⟨b, 0, none⟩ = some x ∧ w.cell? ⟨b, 1, none⟩ = some y ∧ w.cell? ⟨b, 2, none⟩ = some z ∧ w.frozen? ⟨b, 0, none⟩ = false ∧ w.frozen? ⟨b, 1, none⟩ = false ∧ w.frozen? ⟨b, 2, none⟩ = false := by
  simp [World.cell?, World.frozen?, h]

theorem two_new (w : World) (x y : Value) (t : TypeId) : (w.alloc (.cells #[x, y] t)).cell? ⟨w.heap.size, 0, none⟩ = some x ∧ (w.alloc (.cells #[x, y] t)).cell? ⟨w.heap.size, 1, none⟩ = some y := by simp
theorem one_new (w : World) (x : Value) (t : TypeId) : (w.alloc (.cells #[x] t)).cell? ⟨w.heap.size, 0, none⟩ = some x := by simp

theorem RS.later {w : World} {B : Nat} {ao : Option Addr} {c : Nat} {ts : List Rd.Tk} {en : Int} {k : Nat} {xo : Option Addr} {xc : Nat} {acc : List Rd.Al}
    (h : RS w B ao c ts en k xo xc acc) (o : Obj) : RS (w.alloc o) B ao c ts en k xo xc acc := h.below ((Below.refl _ w).alloc (Nat.le_refl _) o)
theorem RS.drewN {w : World} {B : Nat} {ao : Option Addr} {c : Nat} {ts : List Rd.Tk} {en : Int} {k : Nat} {xo : Option Addr} {xc : Nat} {acc : List Rd.Al}
    (h : RS w B ao c ts en k xo xc acc) (n : Nat) : RS (w.drewN n) B ao c ts en k xo xc acc := h.below (below_drewN (Below.refl _ w) n)

theorem KeptNA.of_row {B base n : Nat} {w w' : World} {v : Value} {xs : List Value} (h : w.grownBy w' v.ownBlock) (ho : w.ownsRow base 104 4 v n xs) : KeptNA B w w' :=
  ⟨h.size, fun k hk _ hna => h.block k hk (fun e => by
    rcases ho.2 with ⟨rfl, _⟩ | ⟨g, cap, cur, rfl, _, hg, _⟩
    · cases e
    · have : k = g := by simpa [Value.ownBlock] using e
      subst this
      exact hna _ _ hg)⟩

theorem RS.grownBlk {w w1 : World} {B : Nat} {ao : Option Addr} {c : Nat} {ts : List Rd.Tk} {en : Int} {k : Nat} {xo : Option Addr} {xc : Nat} {acc : List Rd.Al}
    (h : RS w B ao c ts en k xo xc acc) (hg : w.grownBy w1 (Value.slice xo acc.length xc).ownBlock) {n : Nat} {xs : List Value} (h2 : w.ownsRow (B + 1) 104 4 (.slice xo acc.length xc) n xs) :
    w1.heap[B]? = some (.cells #[.slice ao ts.length c, .int .i64 en, .int .i64 k, .slice xo acc.length xc] 126 (0, 0)) := by
  rw [hg.block B h.lt (fun e => by have := (h2.lt _ e.symm).1; omega)]; exact h.blk

theorem RS.push {w w1 : World} {B : Nat} {ao : Option Addr} {c : Nat} {ts : List Rd.Tk} {en : Int} {k : Nat} {xo : Option Addr} {xc : Nat} {acc : List Rd.Al}
    (h : RS w B ao c ts en k xo xc acc) {ps : List (Rd.Al × Value)} (h1 : ps.map (·.1) = acc) (h2 : w.ownsRow (B + 1) 104 4 (.slice xo acc.length xc) ps.length (alsCells ps))
    (h3 : ∀ p ∈ ps, w.ownsRow (B + 1) 101 3 p.2 p.1.2.length (tksCells p.1.2)) (p : Rd.Al × Value) (hp : w.ownsRow (B + 1) 101 3 p.2 p.1.2.length (tksCells p.1.2)) {g cap : Nat}
    (ho : w1.ownsRow (B + 1) 104 4 (.slice (some ⟨g, 0, none⟩) (acc.length + 1) cap) (ps.length + 1) (alsCells ps ++ alCells p)) (hg : w.grownBy w1 (Value.slice xo acc.length xc).ownBlock) :
    RS (w1.setCell ⟨B, 3, none⟩ (.slice (some ⟨g, 0, none⟩) (acc.length + 1) cap)) B ao c ts en k (some ⟨g, 0, none⟩) cap (acc ++ [p.1]) where
  blk := by
    have e : w1.heap[B]? = some (.cells #[.slice ao ts.length c, .int .i64 en, .int .i64 k, .slice xo acc.length xc] 126 (0, 0)) := by
      rw [hg.block B h.lt (fun e => by have := (h2.lt _ e.symm).1; omega)]; exact h.blk
    simp [World.setCell, Array.getElem?_modify, e]
  toks := h.toks.later ((Below.refl B w).grown hg (Nat.le_of_lt h.lt) (fun q hq => by have := (h2.lt q hq).1; omega) |>.setCell (by exact Nat.le_refl _) _)
  own := by
    have e : (acc ++ [p.1]).length = acc.length + 1 := by simp
    rw [e]
    exact (AlsAt.push h1 h2 h3 p hp ho hg).setCell (by exact Nat.lt_succ_self _) _
  cap := h.cap

/-- what alternative comes to -/
def AltPost (w : World) (B : Nat) (ao : Option Addr) (c : Nat) (ts : List Rd.Tk) (en : Int) (k : Nat) (acc : List Rd.Al) (l : Rd.Tk) (e : Ending) (w' : World) : Prop :=
  Below B w w' ∧ KeptNA B w w' ∧ ((∃ er, Rd.whole en ⟨acc, .body l []⟩ (ts.drop k) = .error er ∧ e = thrown er) ∨
    (∃ (j : Nat) (r : List Rd.Tk) (xo : Option Addr) (xc : Nat), k < j ∧ j ≤ ts.length ∧ acc.length < 60 ∧ RS w' B ao c ts en j xo xc (acc ++ [(l, r)]) ∧
      ((e = .returned (.int .i64 4) ∧ Rd.whole en ⟨acc, .body l []⟩ (ts.drop k) = Rd.whole en ⟨acc ++ [(l, r)], .body l []⟩ (ts.drop j)) ∨
       (e = .returned (.int .i64 5) ∧ Rd.whole en ⟨acc, .body l []⟩ (ts.drop k) = Rd.whole en ⟨acc ++ [(l, r)], .start⟩ (ts.drop j)))))

set_option maxHeartbeats 1600000 in
theorem alternative_any (w : World) (B : Nat) (ao : Option Addr) (c : Nat) (ts : List Rd.Tk) (en : Int) (k : Nat) (xo : Option Addr) (xc : Nat) (acc : List Rd.Al) (l : Rd.Tk)
    (hl : ts.length ≤ 2000) (hx : ∀ t ∈ ts, t.text.size ≤ 281474976710656) (hlx : l.text.size ≤ 281474976710656) (h0 : 0 < ts.length) (hk : k ≤ ts.length) (hacc : acc.length ≤ 60) (h : RS w B ao c ts en k xo xc acc) :
    Calls Try.prog 117 #[.pointer (some ⟨B, 0, none⟩), tkVal l] w (AltPost w B ao c ts en k acc l) := by
  obtain ⟨r0, r1, r2, r3, z0, z1, z2, z3⟩ := cells_four h.blk
  have hlt := h.lt
  obtain ⟨b, o, rfl, hbB, hbw, hjunk⟩ := h.toks 0 h0
  clear hjunk
  have HR : Hid (RS w B (some ⟨b, o, none⟩) c ts en k xo xc acc) := h
  have hcap := h.cap
  unfold maxLen at hcap
  clear h
  obtain ⟨iA, hi, hz0, hz1, hz2⟩ := info_parts Try.infoAlt
  have HI : Hid (Try.prog.info? 104 = some iA ∧ iA.zero = some (.agg #[.int .i64 0, .string ⟨#[]⟩, .int .i64 0, .slice none 0 0]) ∧ iA.size = 4 ∧ iA.bytes = 56) := ⟨hi, hz0, hz1, hz2⟩
  clear hi hz0 hz1 hz2
  have HX : Hid _ := hx
  clear hx
  have HAO : Hid (∀ (r : List Rd.Tk) (ao : Option Addr) (c : Nat) (w : World), r.length ≤ 8 → (∀ t ∈ r, t.text.size ≤ 281474976710656) → TksAt w.heap.size w ao r → _) := fun r ao c w h1 h2 h3 => altOf_any l r ao c w h1 hlx h2 h3
  obtain ⟨lk, lx, lp⟩ := l
  unfold tkVal at *
  simp only at hlx HAO ⊢
  go_enter Try.func117, Try.ntmps117
  go_wp2_with fail
  have H0 : Hid (RS (w.alloc (.cells #[.int .i64 lk, .string lx, .int .i64 lp] 101)) B (some ⟨b, o, none⟩) c ts en k xo xc acc) := HR.out.later _
  have hb0 : w.heap.size < (w.alloc (.cells #[.int .i64 lk, .string lx, .int .i64 lp] 101)).heap.size := by simp
  have HB0 : Hid ((w.alloc (.cells #[.int .i64 lk, .string lx, .int .i64 lp] 101)).heap[w.heap.size]? = some (.cells #[.int .i64 lk, .string lx, .int .i64 lp] 101 (0, 0))) := heap_alloc_new w _
  have HG0 : Hid (w.grownBy (w.alloc (.cells #[.int .i64 lk, .string lx, .int .i64 lp] 101)) (some B)) := grown_of_below ((Below.refl _ w).alloc (Nat.le_refl _) _)
  generalize (w.alloc (.cells #[.int .i64 lk, .string lx, .int .i64 lp] 101)) = W0 at *
  go_loopg [] (ts.length - k) (fun m wr => ∃ j : Nat, k ≤ j ∧ j + m = ts.length ∧ Hid (RS wr B (some ⟨b, o, none⟩) c ts en j xo xc acc) ∧ Hid (W0.grownBy wr (some B)) ∧
      Hid (Rd.whole en ⟨acc, .body ⟨lk, lx, lp⟩ []⟩ (ts.drop k) = Rd.whole en ⟨acc, .body ⟨lk, lx, lp⟩ ((ts.take j).drop k)⟩ (ts.drop j)))
  case atStart => exact ⟨k, Nat.le_refl _, by omega, H0, grown_of_below (Below.refl _ _), by show _ = _; rw [show (ts.take k).drop k = [] from List.drop_eq_nil_of_le (by rw [List.length_take]; omega)]⟩
  case round =>
    obtain ⟨j, hj1, hj2, hrs, hgr, hE⟩ := hrel
    clear r0 r1 r2 r3 z0 z1 z2 z3 H0
    obtain ⟨r0, r1, r2, r3, z0, z1, z2, z3⟩ := cells_four hrs.out.blk
    have hltr := hrs.out.lt
    by_cases hjl : j < ts.length
    · obtain ⟨b', o', hbo, hj3, hj4, t0, t1, t2⟩ := hrs.out.toks j hjl
      clear hj3 hj4
      cases hbo
      have HD : Hid (ts.drop j = ts[j] :: ts.drop (j + 1)) := List.drop_eq_getElem_cons hjl
      have HK : Hid ((ts.take (j + 1)).drop k = (ts.take j).drop k ++ [ts[j]]) := by
        show _ = _
        rw [List.take_add_one, List.getElem?_eq_getElem hjl, List.drop_append_of_le_length (by rw [List.length_take]; omega)]; rfl
      have hne : b ≠ B := by omega
      generalize hy : ts[j] = y at t0 t1 t2 HD HK
      have HY : Hid (ts[j] = y) := hy
      clear hy
      obtain ⟨yk, yx, yp⟩ := y
      simp only at t0 t1 t2
      have hji : ((j : Int) < (ts.length : Int)) := by omega
      cases hsy : decide (yk = 1 ∨ yk = 2)
      · go_wp2_with fail
        go_quiet (first | (go_at_call 123; exact Calls.quiet_of_same (isSymbol_is _ _ _ hsy)))
        go_wp2_with fail
        have k1 : (0 : Int) ≤ (k : Int) := by omega
        have k2 : (k : Int) ≤ (j : Int) := by omega
        have k3 : (j : Int) ≤ (c : Int) := by omega
        go_quiet (fail)
        go_wp2_with fail
        have hLk : W0.heap[w.heap.size]? = some (.cells #[.int .i64 lk, .string lx, .int .i64 lp] 101 (0, 0)) := HB0.out
        refine (take_any [4, 5] (by decide) wr.heap.size _ B _ c ts en j xo xc acc hl (by omega) ((hrs.out.drewN _).later _) ?_).mono ?_
        · intro i hi
          match i, hi with
          | 0, _ => exact (two_new (wr.drewN _) _ _ _).1
          | 1, _ => exact (two_new (wr.drewN _) _ _ _).2
        rintro e w2 ⟨hg2, (⟨hbad, _⟩ | ⟨h', hno, rfl⟩) | ⟨h', hyes, rfl, hrs2⟩⟩
        · omega
        · have E : Hid (Rd.whole en ⟨acc, .body ⟨lk, lx, lp⟩ []⟩ (ts.drop k) = .error (12, yp)) := by
            show _ = _
            rw [HY.out] at hno
            rw [hE.out, HD.out, Rd.whole_err (Rd.step_other (by simpa using hsy) (by simpa using hno))]
          rw [HY.out]
          have HGW : Hid (W0.grownBy w2 (some B)) := grown_trans hgr.out (grown_trans (grown_of_below ((below_drewN (Below.refl _ _) _).alloc (by simp) _)) hg2)
          unfold thrown
          go_wp2_with fail
          have HGF := grown_trans HG0.out HGW.out
          exact ⟨rfl, below_of_grown HGF (Nat.le_of_lt hlt), .of_grown HGF, .inl ⟨_, E.out, rfl⟩⟩
        · rw [HY.out] at hyes ⊢
          have HRS2 : Hid _ := hrs2
          have HGW : Hid (W0.grownBy w2 (some B)) := grown_trans hgr.out (grown_trans (grown_of_below ((below_drewN (Below.refl _ _) _).alloc (by simp) _)) hg2)
          have hW2 : w.heap.size < w2.heap.size := Nat.lt_of_lt_of_le hb0 HGW.out.size
          have hl2 : w2.heap[w.heap.size]? = some (.cells #[.int .i64 lk, .string lx, .int .i64 lp] 101 (0, 0)) := by
            rw [HGW.out.block _ hb0 (fun e => by cases e; omega)]; exact hLk
          obtain ⟨l0, l1, l2, lz0, lz1, lz2⟩ := cells_three hl2
          clear r0 r1 r2 r3 z0 z1 z2 z3 hrs hg2 hgr t0 t1 t2
          obtain ⟨r0, r1, r2, r3, z0, z1, z2, z3⟩ := cells_four hrs2.blk
          have hlt2 := hrs2.lt
          clear hrs2
          unfold tkVal
          simp only
          have hy45 : yk = 4 ∨ yk = 5 := by simpa using hyes
          have HGF : Hid (w.grownBy w2 (some B)) := grown_trans HG0.out HGW.out
          clear HG0 HGW HR HB0 hLk hl2 hyes
          by_cases h60 : acc.length = 60
          · have q60 : ((acc.length : Int) == 60) = true := by simp [h60]
            have E : Hid (Rd.whole en ⟨acc, .body ⟨lk, lx, lp⟩ []⟩ (ts.drop k) = .error (14, lp)) := by
              show _ = _
              rw [hE.out, HD.out, Rd.whole_err (Rd.step_large (by simpa using hy45) (by omega))]
            clear h60 hy45
            go_wp2_with (go_at_call 122; refine (rthrow_any _ _ _).mono ?_; rintro e w3 ⟨rfl, rfl⟩)
            have G := grown_trans HGF.out (grown_of_below (r := some B) ((Below.refl _ w2).alloc (Nat.le_refl _) (.cells #[.int .i64 yk, .string yx, .int .i64 yp] 101)))
            exact ⟨rfl, below_of_grown G (Nat.le_of_lt hlt), .of_grown G, .inl ⟨_, E.out, rfl⟩⟩
          · have q60 : ((acc.length : Int) == 60) = false := by simp; omega
            have HLr : Hid (((ts.take j).drop k).length = j - k) := by show _ = _; rw [List.length_drop, List.length_take]; omega
            by_cases h8 : 8 < j - k
            · have d8 : (8 : Int) < ((j - k : Nat) : Int) := by omega
              have E : Hid (Rd.whole en ⟨acc, .body ⟨lk, lx, lp⟩ []⟩ (ts.drop k) = .error (14, lp)) := by
                show _ = _
                rw [hE.out, HD.out, Rd.whole_err (Rd.step_large (by simpa using hy45) (by rw [HLr.out]; omega))]
              clear h60 hy45
              go_wp2_with (go_at_call 122; refine (rthrow_any _ _ _).mono ?_; rintro e w3 ⟨rfl, rfl⟩)
              have G := grown_trans HGF.out (grown_of_below (r := some B) ((Below.refl _ w2).alloc (Nat.le_refl _) (.cells #[.int .i64 yk, .string yx, .int .i64 yp] 101)))
              exact ⟨rfl, below_of_grown G (Nat.le_of_lt hlt), .of_grown G, .inl ⟨_, E.out, rfl⟩⟩
            · have d8 : ((j - k : Nat) : Int) ≤ 8 := by omega
              obtain ⟨r, Hr⟩ : ∃ r, Hid ((ts.take j).drop k = r) := ⟨_, rfl⟩
              have hr8 : r.length ≤ 8 := by rw [← Hr.out, HLr.out]; omega
              have Hrl : Hid (r.length = j - k) := by show _ = _; rw [← Hr.out, HLr.out]
              have HXr : Hid (∀ t ∈ r, t.text.size ≤ 281474976710656) := fun t ht => HX.out t (by rw [← Hr.out] at ht; exact List.mem_of_mem_take (List.mem_of_mem_drop ht))
              have HCall := fun (W : World) (c : Nat) (h : TksAt W.heap.size W (some ⟨b, o + k * 3, none⟩) r) => HAO.out r (some ⟨b, o + k * 3, none⟩) c W hr8 HXr.out h
              rw [Hrl.out] at HCall
              have HC : Hid _ := HCall
              clear HCall
              have HTr : Hid (TksAt B w2 (some ⟨b, o + k * 3, none⟩) r) := by
                have := HRS2.out.toks.part k j
                rwa [Hr.out] at this
              have E4 : Hid (yk = 4 → Rd.whole en ⟨acc, .body ⟨lk, lx, lp⟩ []⟩ (ts.drop k) = Rd.whole en ⟨acc ++ [(⟨lk, lx, lp⟩, r)], .body ⟨lk, lx, lp⟩ []⟩ (ts.drop (j + 1))) := fun h => by
                rw [hE.out, HD.out, Hr.out, Rd.whole_ok (Rd.step_bar h (by omega))]
              have E5 : Hid (yk = 5 → Rd.whole en ⟨acc, .body ⟨lk, lx, lp⟩ []⟩ (ts.drop k) = Rd.whole en ⟨acc ++ [(⟨lk, lx, lp⟩, r)], .start⟩ (ts.drop (j + 1))) := fun h => by
                rw [hE.out, HD.out, Hr.out, Rd.whole_ok (Rd.step_end h (by omega))]
              have HB3 : Hid (Below w2.heap.size w2 (w2.alloc (.cells #[.int .i64 yk, .string yx, .int .i64 yp] 101))) := (Below.refl _ w2).alloc (Nat.le_refl _) _
              have HN3 : Hid ((w2.alloc (.cells #[.int .i64 yk, .string yx, .int .i64 yp] 101)).heap[w2.heap.size]? = some (.cells #[.int .i64 yk, .string yx, .int .i64 yp] 101 (0, 0))) := heap_alloc_new w2 _
              have hs3 : w2.heap.size < (w2.alloc (.cells #[.int .i64 yk, .string yx, .int .i64 yp] 101)).heap.size := by simp
              clear hE HD HK HAO HXr Hr HLr HY hsy
              go_wp2_with fail
              generalize (w2.alloc (.cells #[.int .i64 yk, .string yx, .int .i64 yp] 101)) = W3 at *
              have HR3 : Hid _ := HRS2.out.below HB3.out
              replace r0 := cell_later HB3.out r0
              replace r3 := cell_later HB3.out r3
              replace l0 := cell_later HB3.out l0
              replace l1 := cell_later HB3.out l1
              replace l2 := cell_later HB3.out l2
              have hlt3 := HR3.out.lt
              clear r1 r2 z0 z1 z2 z3 lz0 lz1 lz2
              have HCALL : Hid (Calls Try.prog 124 #[.agg #[.int .i64 lk, .string lx, .int .i64 lp], .slice (some ⟨b, o + k * 3, none⟩) (j - k) (c - k)] W3.drew fun e w4 => ∃ zo zn zc ps, e = .returned (.agg #[.int .i64 lk, .string lx, .int .i64 lp, .slice zo zn zc]) ∧
                  Hid (RS w4 B (some ⟨b, o, none⟩) c ts en (j + 1) xo xc acc) ∧ Hid (ps.length = acc.length) ∧ Hid (ps.map (·.1) = acc) ∧ Hid (w4.ownsRow (B + 1) 104 4 (.slice xo acc.length xc) acc.length (alsCells ps)) ∧
                  Hid (∀ p ∈ ps, w4.ownsRow (B + 1) 101 3 p.2 p.1.2.length (tksCells p.1.2)) ∧ Hid (w4.ownsRow (B + 1) 101 3 (.slice zo zn zc) r.length (tksCells r)) ∧ Hid (Below W3.heap.size W3 w4)) := by
                refine (HC.out W3.drew (c - k) ((HTr.out.later (HB3.out.mono (Nat.le_of_lt hlt2))).size.later (Below.refl _ W3).drew)).mono ?_
                rintro e w4 ⟨zo, zn, zc, rfl, hb4, hown4⟩
                have HR4 := (HR3.out.below (Below.refl _ W3).drew).below hb4
                obtain ⟨ps, hp1, hp2, hp3⟩ := HR4.own
                have HPL : ps.length = acc.length := by rw [← hp1, List.length_map]
                rw [HPL] at hp2
                exact ⟨zo, zn, zc, ps, rfl, HR4, HPL, hp1, hp2, hp3, ownsRow_from (by rw [Hrl.out]; exact hown4) (by show B + 1 ≤ W3.heap.size; omega), (Below.refl _ W3).drew.trans hb4⟩
              go_region_law
                (first
                  | (go_simp; go_at_call 124; refine HCALL.out.mono ?_; rintro e w4 ⟨zo, zn, zc, ps, rfl, HR4, HPL, HP1, HP2, HP3, HO4, HB4⟩; obtain ⟨d0, d1, d2, d3, dz0, dz1, dz2, dz3⟩ := cells_four HR4.out.blk; have hlt4 := HR4.out.lt)
                  | (refine step_append_lies _ (by rfl) _ _ _ (by rfl) (B + 1) 104 iA _ 4 56 Try.underlying81 HI.out.1 HI.out.2.1 HI.out.2.2.1 HI.out.2.2.2 rfl (by omega) (.slice xo acc.length xc) acc.length (alsCells ps) (by rfl) (HP2.out.alloc _) ⟨w4.heap.size, 0, none⟩ 1 1 [.int .i64 lk, .string lx, .int .i64 lp, .slice zo zn zc] (by rfl) (by rfl) (World.news_of_block (cs := #[.int .i64 lk, .string lx, .int .i64 lp, .slice zo zn zc]) (t := 104) (fr := (0, 0)) (heap_alloc_new w4 _)) (by simp [Value.oneCell']) (by omega) (by unfold maxLen; omega) (by omega) (by simp; omega) (w4.heap.size + 1) (by simp) ?_; intro g cap w5 hown5 hgrow hat hlt5; obtain ⟨q0, q1, q2, q3, qz0, qz1, qz2, qz3⟩ := cells_four ((HR4.out.later _).grownBlk hgrow (HP2.out.alloc _))))
              all_goals
                have hb5 : w5.heap[w2.heap.size]? = some (.cells #[.int .i64 yk, .string yx, .int .i64 yp] 101 (0, 0)) := by
                  have e4 : (w4.alloc (.cells #[.int .i64 lk, .string lx, .int .i64 lp, .slice zo zn zc] 104)).heap[w2.heap.size]? = some (.cells #[.int .i64 yk, .string yx, .int .i64 yp] 101 (0, 0)) := by
                    rw [Below.heap_alloc _ _ _ (Nat.lt_of_lt_of_le hs3 HB4.out.size), HB4.out.block _ hs3]; exact HN3.out
                  rw [(KeptNA.of_row (B := B) hgrow (HP2.out.alloc _)).block _ (by have := HB4.out.size; simp; omega) (by omega) (by rw [e4]; intro cur f e; cases e)]
                  exact e4
                have HPU : Hid (RS (w5.setCell ⟨B, 3, none⟩ (.slice (some ⟨g, 0, none⟩) (acc.length + 1) cap)) B (some ⟨b, o, none⟩) c ts en (j + 1) (some ⟨g, 0, none⟩) cap (acc ++ [(⟨lk, lx, lp⟩, r)])) :=
                  (HR4.out.later _).push HP1.out (by rw [HPL.out]; exact HP2.out.alloc _) (fun q hq => (HP3.out q hq).alloc _) ((⟨lk, lx, lp⟩, r), .slice zo zn zc) (HO4.out.alloc _) (by rw [HPL.out]; exact hown5) hgrow
                have HBB : Hid (Below B w (w5.setCell ⟨B, 3, none⟩ (.slice (some ⟨g, 0, none⟩) (acc.length + 1) cap))) := by
                  have x1 : Below B w W3 := (below_of_grown HGF.out (Nat.le_of_lt hlt)).trans (HB3.out.mono (Nat.le_of_lt hlt2))
                  have x2 : Below B w (w4.alloc (.cells #[.int .i64 lk, .string lx, .int .i64 lp, .slice zo zn zc] 104)) := (x1.trans (HB4.out.mono (Nat.le_of_lt hlt3))).alloc (Nat.le_of_lt hlt4) _
                  exact (x2.grown hgrow (by have := hlt4; simp; omega) (fun q hq => by have := (HP2.out.lt q hq).1; omega)).setCell (by exact Nat.le_refl _) _
                have HNA : Hid (KeptNA B w (w5.setCell ⟨B, 3, none⟩ (.slice (some ⟨g, 0, none⟩) (acc.length + 1) cap))) := by
                  have x2 : w.grownBy (w4.alloc (.cells #[.int .i64 lk, .string lx, .int .i64 lp, .slice zo zn zc] 104)) (some B) :=
                    grown_trans HGF.out (grown_trans (grown_of_below HB3.out) (grown_trans (grown_of_below HB4.out) (grown_of_below ((Below.refl _ _).alloc (Nat.le_refl _) _))))
                  exact ((KeptNA.of_grown x2).trans (KeptNA.of_row hgrow (HP2.out.alloc _))).trans (KeptNA.of_grown (grown_set _ B 3 _))
                obtain ⟨y0, y1, y2, yz0, yz1, yz2⟩ := cells_three hb5
                have hneB : w2.heap.size ≠ B := by omega
                clear hgrow hown5 hb5 d0 d1 d2 d3 dz0 dz1 dz2 dz3 q0 q1 q2 q3 qz0 qz1 qz2 qz3 r0 r3 l0 l1 l2
                go_wp2_with fail
                go_ret
                refine ⟨HBB.out, HNA.out, .inr ⟨j + 1, r, _, _, by omega, by omega, by omega, HPU.out, ?_⟩⟩
                rcases hy45 with rfl | rfl
                · exact .inl ⟨rfl, E4.out rfl⟩
                · exact .inr ⟨rfl, E5.out rfl⟩
      · have R : Hid (Rd.whole en ⟨acc, .body ⟨lk, lx, lp⟩ []⟩ (ts.drop k) = Rd.whole en ⟨acc, .body ⟨lk, lx, lp⟩ ((ts.take (j + 1)).drop k)⟩ (ts.drop (j + 1))) := by
          show _ = _
          rw [hE.out, HD.out, Rd.whole_ok (Rd.step_sym (by simpa using hsy)), HK.out]
        clear hE HD HK
        go_wp2_with fail
        go_quiet (first | (go_at_call 123; exact Calls.quiet_of_same (isSymbol_is _ _ _ hsy)))
        go_wp2_with fail
        go_roundg (ts.length - (j + 1))
        case rel =>
          rw [show ((j : Int) + 1) = ((j + 1 : Nat) : Int) from by omega]
          exact ⟨j + 1, by omega, by omega, (hrs.out.drewN nq).step (j + 1), grown_trans hgr.out (grown_trans (grown_of_below (below_drewN (Below.refl _ _) nq)) (grown_set _ B 2 _)), R⟩
        case measure => omega
    · have e : j = ts.length := by omega
      subst e
      have hji : decide ((ts.length : Int) < (ts.length : Int)) = false := by simp
      have k1 : (0 : Int) ≤ (k : Int) := by omega
      have k2 : (k : Int) ≤ (ts.length : Int) := by omega
      have k3 : (ts.length : Int) ≤ (c : Int) := by omega
      have E : Hid (Rd.whole en ⟨acc, .body ⟨lk, lx, lp⟩ []⟩ (ts.drop k) = .error (12, en)) := by
        show _ = _
        rw [hE.out, List.drop_of_length_le (Nat.le_refl _)]; rfl
      clear hE hjl
      rcases Nat.lt_or_ge k c with hkc | hkc
      · have hkc' : ¬ c = k := by omega
        go_wp2_with fail
        go_quiet (fail)
        go_wp2_with fail
        go_quiet (fail)
        go_wp2_with fail
        refine (take_any [4, 5] (by decide) wr.heap.size _ B _ _ ts en ts.length xo xc acc hl (Nat.le_refl _) ((hrs.out.drewN _).later _) ?_).mono ?_
        · intro i hi
          match i, hi with
          | 0, _ => exact (two_new (wr.drewN _) _ _ _).1
          | 1, _ => exact (two_new (wr.drewN _) _ _ _).2
        rintro e w2 ⟨hg2, (⟨_, rfl⟩ | ⟨h', _⟩) | ⟨h', _⟩⟩
        · have HGW : Hid (W0.grownBy w2 (some B)) := grown_trans hgr.out (grown_trans (grown_of_below ((below_drewN (Below.refl _ _) _).alloc (by simp) _)) hg2)
          unfold thrown
          go_wp2_with fail
          have HGF := grown_trans HG0.out HGW.out
          exact ⟨rfl, below_of_grown HGF (Nat.le_of_lt hlt), .of_grown HGF, .inl ⟨_, E.out, rfl⟩⟩
        · exact absurd h' (Nat.lt_irrefl _)
        · exact absurd h' (Nat.lt_irrefl _)
      · have e : k = c := by omega
        subst e
        go_wp2_with fail
        go_quiet (fail)
        go_wp2_with fail
        go_quiet (fail)
        go_wp2_with fail
        refine (take_any [4, 5] (by decide) wr.heap.size _ B _ _ ts en ts.length xo xc acc hl (Nat.le_refl _) ((hrs.out.drewN _).later _) ?_).mono ?_
        · intro i hi
          match i, hi with
          | 0, _ => exact (two_new (wr.drewN _) _ _ _).1
          | 1, _ => exact (two_new (wr.drewN _) _ _ _).2
        rintro e w2 ⟨hg2, (⟨_, rfl⟩ | ⟨h', _⟩) | ⟨h', _⟩⟩
        · have HGW : Hid (W0.grownBy w2 (some B)) := grown_trans hgr.out (grown_trans (grown_of_below ((below_drewN (Below.refl _ _) _).alloc (by simp) _)) hg2)
          unfold thrown
          go_wp2_with fail
          have HGF := grown_trans HG0.out HGW.out
          exact ⟨rfl, below_of_grown HGF (Nat.le_of_lt hlt), .of_grown HGF, .inl ⟨_, E.out, rfl⟩⟩
        · exact absurd h' (Nat.lt_irrefl _)
        · exact absurd h' (Nat.lt_irrefl _)
end Go.Proofs.Ytdocbgfpnaiijaa

namespace Go.Proofs.Ytdocbgfpnaiijaa
open Go.RowKit

/-- what definition comes to -/
def DefPost (w : World) (B : Nat) (ao : Option Addr) (c : Nat) (ts : List Rd.Tk) (en : Int) (k : Nat) (acc : List Rd.Al) (e : Ending) (w' : World) : Prop :=
  Below B w w' ∧ ((∃ er, Rd.whole en ⟨acc, .start⟩ (ts.drop k) = .error er ∧ e = thrown er) ∨
    (∃ (j : Nat) (acc' : List Rd.Al) (xo : Option Addr) (xc : Nat), k < j ∧ j ≤ ts.length ∧ acc.length < acc'.length ∧ acc'.length ≤ 60 ∧ RS w' B ao c ts en j xo xc acc' ∧
      e = .returned (.tuple #[]) ∧ Rd.whole en ⟨acc, .start⟩ (ts.drop k) = Rd.whole en ⟨acc', .start⟩ (ts.drop j)))

set_option maxHeartbeats 1600000 in
theorem definition_any (w : World) (B : Nat) (ao : Option Addr) (c : Nat) (ts : List Rd.Tk) (en : Int) (k : Nat) (xo : Option Addr) (xc : Nat) (acc : List Rd.Al)
    (hl : ts.length ≤ 2000) (hx : ∀ t ∈ ts, t.text.size ≤ 281474976710656) (hk : k ≤ ts.length) (hk0 : k < ts.length ∨ acc.length = 0) (hacc : acc.length ≤ 60) (h : RS w B ao c ts en k xo xc acc) :
    Calls Try.prog 110 #[.pointer (some ⟨B, 0, none⟩)] w (DefPost w B ao c ts en k acc) := by
  have hlt := h.lt
  have HR : Hid (RS w B ao c ts en k xo xc acc) := h
  have HX : Hid _ := hx
  clear h hx
  go_enter Try.func110, Try.ntmps110
  go_wp2_with fail
  refine (take_any [1] (by decide) w.heap.size _ B _ _ ts en k xo xc acc hl hk (HR.out.later _) ?_).mono ?_
  · intro i hi
    match i, hi with
    | 0, _ => exact one_new w _ _
  rintro e w1 ⟨hg1, (⟨hbad, rfl⟩ | ⟨h', hno, rfl⟩) | ⟨h', hyes, rfl, hrs1⟩⟩
  · have E : Hid (Rd.whole en ⟨acc, .start⟩ (ts.drop k) = .error (12, en)) := by
      show _ = _
      rw [List.drop_of_length_le hbad, Rd.whole_nil]
      simp only [Rd.fin]; rw [if_pos (by omega)]
    unfold thrown
    go_wp2_with fail
    exact ⟨rfl, below_of_grown (grown_trans (grown_of_below ((Below.refl _ _).alloc (Nat.le_refl _) _)) hg1) (Nat.le_of_lt hlt), .inl ⟨_, E.out, rfl⟩⟩
  · have E : Hid (Rd.whole en ⟨acc, .start⟩ (ts.drop k) = .error (12, ts[k].pos)) := by
      show _ = _
      rw [List.drop_eq_getElem_cons h', Rd.whole_err (Rd.step_noname (by simpa using hno))]
    unfold thrown
    go_wp2_with fail
    exact ⟨rfl, below_of_grown (grown_trans (grown_of_below ((Below.refl _ _).alloc (Nat.le_refl _) _)) hg1) (Nat.le_of_lt hlt), .inl ⟨_, E.out, rfl⟩⟩
  · have hlx : ts[k].text.size ≤ 281474976710656 := HX.out _ (List.getElem_mem h')
    have E1 : Hid (Rd.whole en ⟨acc, .start⟩ (ts.drop k) = Rd.whole en ⟨acc, .eq ts[k]⟩ (ts.drop (k + 1))) := by
      show _ = _
      rw [List.drop_eq_getElem_cons h', Rd.whole_ok (Rd.step_name (by simpa using hyes))]
    have HB1 : Hid (Below B w w1) := below_of_grown (grown_trans (grown_of_below ((Below.refl _ _).alloc (Nat.le_refl _) _)) hg1) (Nat.le_of_lt hlt)
    have HR1 : Hid _ := hrs1
    have hlt1 := hrs1.lt
    clear hrs1 hyes hg1 HR
    generalize ts[k] = l at *
    obtain ⟨lk, lx, lp⟩ := l
    unfold tkVal
    simp only at hlx ⊢
    go_wp2_with fail
    refine (take_any [3] (by decide) (w1.heap.size + 1) _ B _ _ ts en (k + 1) xo xc acc hl (by omega) ((HR1.out.later _).later _) ?_).mono ?_
    · intro i hi
      match i, hi with
      | 0, _ => simp
    rintro e w2 ⟨hg2, (⟨hbad, rfl⟩ | ⟨h2, hno, rfl⟩) | ⟨h2, hyes, rfl, hrs2⟩⟩
    · have E : Hid (Rd.whole en ⟨acc, .start⟩ (ts.drop k) = .error (12, en)) := by
        show _ = _
        rw [E1.out, List.drop_of_length_le hbad, Rd.whole_nil]; rfl
      have HB2 : Hid (Below B w w2) := HB1.out.trans (below_of_grown (grown_trans (grown_of_below (((Below.refl _ _).alloc (Nat.le_refl _) _).alloc (by simp) _)) hg2) (Nat.le_of_lt hlt1))
      unfold thrown
      go_wp2_with fail
      exact ⟨rfl, HB2.out, .inl ⟨_, E.out, rfl⟩⟩
    · have E : Hid (Rd.whole en ⟨acc, .start⟩ (ts.drop k) = .error (12, ts[k + 1].pos)) := by
        show _ = _
        rw [E1.out, List.drop_eq_getElem_cons h2, Rd.whole_err (Rd.step_nois (by simpa using hno))]
      have HB2 : Hid (Below B w w2) := HB1.out.trans (below_of_grown (grown_trans (grown_of_below (((Below.refl _ _).alloc (Nat.le_refl _) _).alloc (by simp) _)) hg2) (Nat.le_of_lt hlt1))
      unfold thrown
      go_wp2_with fail
      exact ⟨rfl, HB2.out, .inl ⟨_, E.out, rfl⟩⟩
    · have E2 : Hid (Rd.whole en ⟨acc, .start⟩ (ts.drop k) = Rd.whole en ⟨acc, .body ⟨lk, lx, lp⟩ []⟩ (ts.drop (k + 2))) := by
        show _ = _
        rw [E1.out, List.drop_eq_getElem_cons h2, Rd.whole_ok (Rd.step_is (by simpa using hyes))]
      have HB2 : Hid (Below B w w2) := HB1.out.trans (below_of_grown (grown_trans (grown_of_below (((Below.refl _ _).alloc (Nat.le_refl _) _).alloc (by simp) _)) hg2) (Nat.le_of_lt hlt1))
      have HL2 : Hid (w2.heap[w1.heap.size]? = some (.cells #[.int .i64 lk, .string lx, .int .i64 lp] 101 (0, 0))) := by
        show _ = _
        rw [hg2.block _ (by simp; omega) (fun e => by cases e; omega), Below.heap_alloc _ _ _ (by simp)]
        exact heap_alloc_new w1 _
      have HR2 : Hid _ := hrs2
      have hlt2 := hrs2.lt
      have hsz2 : w1.heap.size < w2.heap.size := (Array.getElem?_eq_some_iff.1 HL2.out).1
      clear hrs2 hyes hg2 HR1 HB1 E1
      generalize ts[k + 1] = y at *
      obtain ⟨yk, yx, yp⟩ := y
      unfold tkVal
      simp only
      have HALT : Hid _ := fun (W : World) (j : Nat) (xo : Option Addr) (xc : Nat) (acc : List Rd.Al) (h1 : j ≤ ts.length) (h2 : acc.length ≤ 60) (h3 : RS W B ao c ts en j xo xc acc) => alternative_any W B ao c ts en j xo xc acc ⟨lk, lx, lp⟩ hl HX.out hlx (by omega) h1 h2 h3
      unfold tkVal at HALT
      go_wp2_with fail
      go_loopg [] (ts.length - (k + 2)) (fun m wr => ∃ (j : Nat) (acc' : List Rd.Al) (xo : Option Addr) (xc : Nat), k < j ∧ j + m = ts.length ∧ acc.length ≤ acc'.length ∧ acc'.length ≤ 60 ∧ Hid (RS wr B ao c ts en j xo xc acc') ∧ Hid (Below B w wr) ∧
          Hid (wr.heap[w1.heap.size]? = some (.cells #[.int .i64 lk, .string lx, .int .i64 lp] 101 (0, 0))) ∧ Hid (Rd.whole en ⟨acc, .start⟩ (ts.drop k) = Rd.whole en ⟨acc', .body ⟨lk, lx, lp⟩ []⟩ (ts.drop j)))
      case atStart => exact ⟨k + 2, acc, xo, xc, by omega, by omega, Nat.le_refl _, hacc, HR2, HB2, HL2, E2⟩
      case round =>
        obtain ⟨j, acc', xo', xc', hj1, hj2, ha1, ha2, hrs, hbr, hbl, hE⟩ := hrel
        obtain ⟨l0, l1, l2, lz0, lz1, lz2⟩ := cells_three hbl.out
        have hltr := hrs.out.lt
        have hszr : w1.heap.size < wr.heap.size := (Array.getElem?_eq_some_iff.1 hbl.out).1
        clear HR2 HB2 HL2 E2
        go_wp2_with fail
        refine (HALT.out wr j xo' xc' acc' (by omega) ha2 hrs.out).mono ?_
        rintro e w3 ⟨hb3, hna3, ⟨er, hw, rfl⟩ | ⟨j', r, xo2, xc2, hjj, hjl, ha3, hrs3, (⟨rfl, hw⟩ | ⟨rfl, hw⟩)⟩⟩
        · have E : Hid (Rd.whole en ⟨acc, .start⟩ (ts.drop k) = .error er) := by show _ = _; rw [hE.out, hw]
          have HB : Hid (Below B w w3) := hbr.out.trans hb3
          clear hE hw
          unfold thrown
          go_wp2_with fail
          exact ⟨rfl, HB.out, .inl ⟨_, E.out, rfl⟩⟩
        · have E : Hid (Rd.whole en ⟨acc, .start⟩ (ts.drop k) = Rd.whole en ⟨acc' ++ [(⟨lk, lx, lp⟩, r)], .body ⟨lk, lx, lp⟩ []⟩ (ts.drop j')) := by show _ = _; rw [hE.out, hw]
          have HB : Hid (Below B w w3) := hbr.out.trans hb3
          have HL : Hid (w3.heap[w1.heap.size]? = some (.cells #[.int .i64 lk, .string lx, .int .i64 lp] 101 (0, 0))) := by
            show _ = _
            rw [hna3.block _ hszr (by omega) (by rw [hbl.out]; intro cur f e; cases e)]; exact hbl.out
          have HRS : Hid _ := hrs3
          clear hE hw hb3 hna3 hrs3 hrs hbl hbr
          go_wp2_with fail
          go_roundg (ts.length - j')
          case rel => exact ⟨j', _, _, _, by omega, by omega, by simp; omega, by simp; omega, HRS, HB, HL, E⟩
          case measure => omega
        · have E : Hid (Rd.whole en ⟨acc, .start⟩ (ts.drop k) = Rd.whole en ⟨acc' ++ [(⟨lk, lx, lp⟩, r)], .start⟩ (ts.drop j')) := by show _ = _; rw [hE.out, hw]
          have HB : Hid (Below B w w3) := hbr.out.trans hb3
          have HRS : Hid _ := hrs3
          clear hE hw hb3 hna3 hrs3 hrs hbl hbr
          go_wp2_with fail
          go_end0
          exact ⟨HB.out, .inr ⟨j', _, _, _, by omega, by omega, by simp; omega, by simp; omega, HRS.out, rfl, E.out⟩⟩

/-- what definitions comes to -/
def DefsPost (w : World) (B : Nat) (ao : Option Addr) (c : Nat) (ts : List Rd.Tk) (en : Int) (e : Ending) (w' : World) : Prop :=
  Below B w w' ∧ ((∃ er, Rd.alts ts en = .error er ∧ e = thrown er) ∨
    (∃ (acc : List Rd.Al) (xo : Option Addr) (xc : Nat), acc.length ≤ 60 ∧ RS w' B ao c ts en ts.length xo xc acc ∧ e = .returned (.tuple #[]) ∧ Rd.alts ts en = .ok acc))

set_option maxHeartbeats 1600000 in
theorem definitions_any (w : World) (B : Nat) (ao : Option Addr) (c : Nat) (ts : List Rd.Tk) (en : Int) (xo : Option Addr) (xc : Nat)
    (hl : ts.length ≤ 2000) (hx : ∀ t ∈ ts, t.text.size ≤ 281474976710656) (h : RS w B ao c ts en 0 xo xc []) :
    Calls Try.prog 100 #[.pointer (some ⟨B, 0, none⟩)] w (DefsPost w B ao c ts en) := by
  have hlt := h.lt
  have HR : Hid (RS w B ao c ts en 0 xo xc []) := h
  have HX : Hid _ := hx
  clear h hx
  go_enter Try.func100, Try.ntmps100
  go_wp2_with fail
  refine (definition_any w B ao c ts en 0 xo xc [] hl HX.out (Nat.zero_le _) (.inr rfl) (by simp) HR.out).mono ?_
  rintro e w1 ⟨hb1, ⟨er, hw, rfl⟩ | ⟨j1, acc1, xo1, xc1, hj1, hj2, ha1, ha2, hrs1, rfl, hw⟩⟩
  · have E : Hid (Rd.alts ts en = .error er) := by show _ = _; rw [Rd.alts]; simpa using hw
    clear hw
    unfold thrown
    go_wp2_with fail
    exact ⟨rfl, hb1, .inl ⟨_, E.out, rfl⟩⟩
  · have E : Hid (Rd.alts ts en = Rd.whole en ⟨acc1, .start⟩ (ts.drop j1)) := by show _ = _; rw [Rd.alts]; simpa using hw
    have HR1 : Hid _ := hrs1
    have HB1 : Hid _ := hb1
    clear hw hrs1 hb1 HR
    go_wp2_with fail
    go_loopg [] (ts.length - j1) (fun m wr => ∃ (j : Nat) (acc : List Rd.Al) (xo : Option Addr) (xc : Nat), j + m = ts.length ∧ 0 < acc.length ∧ acc.length ≤ 60 ∧ Hid (RS wr B ao c ts en j xo xc acc) ∧ Hid (Below B w wr) ∧
        Hid (Rd.alts ts en = Rd.whole en ⟨acc, .start⟩ (ts.drop j)))
    case atStart => exact ⟨j1, acc1, xo1, xc1, by omega, by simp at ha1; omega, ha2, HR1, HB1, E⟩
    case round =>
      obtain ⟨j, acc, xo', xc', hj, ha3, ha4, hrs, hbr, hE⟩ := hrel
      obtain ⟨r0, r1, r2, r3, z0, z1, z2, z3⟩ := cells_four hrs.out.blk
      have hltr := hrs.out.lt
      clear HR1 HB1 E
      by_cases hjl : j < ts.length
      · have hji : (j : Int) < (ts.length : Int) := by omega
        go_wp2_with fail
        go_quiet (fail)
        go_wp2_with fail
        refine (definition_any _ B ao c ts en j xo' xc' acc hl HX.out (by omega) (.inl hjl) ha4 (hrs.out.drewN _)).mono ?_
        rintro e w3 ⟨hb3, ⟨er, hw, rfl⟩ | ⟨j3, acc3, xo3, xc3, hj3, hj4, ha5, ha6, hrs3, rfl, hw⟩⟩
        · have E : Hid (Rd.alts ts en = .error er) := by show _ = _; rw [hE.out, hw]
          have HB : Hid (Below B w w3) := (below_drewN hbr.out _).trans hb3
          clear hE hw hb3 hbr
          unfold thrown
          go_wp2_with fail
          exact ⟨rfl, HB.out, .inl ⟨_, E.out, rfl⟩⟩
        · have E : Hid (Rd.alts ts en = Rd.whole en ⟨acc3, .start⟩ (ts.drop j3)) := by show _ = _; rw [hE.out, hw]
          have HB : Hid (Below B w w3) := (below_drewN hbr.out _).trans hb3
          have HRS : Hid _ := hrs3
          clear hE hw hb3 hbr hrs3 hrs r0 r1 r2 r3 z0 z1 z2 z3
          go_wp2_with fail
          go_roundg (ts.length - j3)
          case rel => exact ⟨j3, _, _, _, by omega, by omega, ha6, HRS, HB, E⟩
          case measure => omega
      · have e : j = ts.length := by omega
        subst e
        have hji : decide ((ts.length : Int) < (ts.length : Int)) = false := by simp
        have E : Hid (Rd.alts ts en = .ok acc) := by
          show _ = _
          rw [hE.out, List.drop_of_length_le (Nat.le_refl _), Rd.whole_nil]
          simp only [Rd.fin]; rw [if_neg (by omega)]
        clear hE hjl
        go_wp2_with fail
        go_quiet (fail)
        go_wp2_with fail
        go_end0
        exact ⟨below_drewN hbr.out _, .inr ⟨acc, _, _, ha4, hrs.out.drewN _, rfl, E.out⟩⟩
end Go.Proofs.Ytdocbgfpnaiijaa

namespace Go.Proofs.Ytdocbgfpnaiijaa
open Go.RowKit

theorem rassert_fault (x : Value) (w : World) : (Instr.typeAssert (.iface 56 x) 20 56 true).run Try.prog w = .ok (.tuple #[x, .bool true]) w := by kernel_rfl

set_option maxHeartbeats 400000 in
theorem rfaultOf_any (a b : Int) (w : World) :
    Calls Try.prog 99 #[.iface 56 (.agg #[.int .i64 a, .int .i64 b])] w fun e w' => e = .returned (.agg #[.int .i64 a, .int .i64 b]) ∧ Below w.heap.size w w' := by
  have hta := rassert_fault (.agg #[.int .i64 a, .int .i64 b])
  go_enter Try.func99, Try.ntmps99
  go_wp2
  refine bodyPost_ret (v := .agg #[.int .i64 a, .int .i64 b]) (by simp [results, Try.results99, go_sem]) rfl ⟨rfl, ?_⟩
  exact ((Below.refl _ w).alloc (Nat.le_refl _) _).alloc (by simp) _

set_option maxHeartbeats 800000 in
theorem rcatch_panicking (B : Nat) (v0 v1 v2 : Value) (a b : Int) (older : List PanicEntry) (w : World)
    (hB : w.cell? ⟨B, 0, none⟩ = some v0) (hBz : w.frozen? ⟨B, 0, none⟩ = false)
    (hC : w.cell? ⟨B + 1, 0, none⟩ = some v1) (hCz : w.frozen? ⟨B + 1, 0, none⟩ = false) (hD : w.cell? ⟨B + 1, 1, none⟩ = some v2) (hDz : w.frozen? ⟨B + 1, 1, none⟩ = false) :
    CallsD Try.prog 98 #[.pointer (some ⟨B, 0, none⟩), .pointer (some ⟨B + 1, 0, none⟩)] (.panicking ({ v := .iface 56 (.agg #[.int .i64 a, .int .i64 b]), recovered := false } :: older)) w fun e u' w' =>
      e = .returned (.tuple #[]) ∧ u' = .panicking ({ v := .iface 56 (.agg #[.int .i64 a, .int .i64 b]), recovered := true } :: older) ∧
      ∃ w1, Below w.heap.size w w1 ∧ w' = ((w1.setCell ⟨B, 0, none⟩ (.slice none 0 0)).setCell ⟨B + 1, 0, none⟩ (.int .i64 a)).setCell ⟨B + 1, 1, none⟩ (.int .i64 b) := by
  refine callsD_of_wpS Try.func98 rfl fun c₀ cs hu => ?_
  apply wpS_seq
  apply wpS_region
  simp [wpOpsS, go_sem, recoverD, hu, Try.ntmps98, Exit.thenS]
  apply wpS_seq
  apply wpS_region
  simp [wpOpsS, go_sem, Exit.thenS]
  refine wpS_cond (t := true) (by simp [Act.eval, Array.replicate]) ?_
  simp only [if_true]
  refine wpS_of_wp ?_
  have ht : (#[Value.pointer (some ⟨B, 0, none⟩), Value.pointer (some ⟨B + 1, 0, none⟩)] ++
          ((((Array.replicate 6 undef).setIfInBounds 1 (Value.iface 56 (Value.agg #[Value.int IntKind.i64 a, Value.int IntKind.i64 b]))).setIfInBounds
                    0 (Value.iface 56 (Value.agg #[Value.int IntKind.i64 a, Value.int IntKind.i64 b]))).setIfInBounds
                2 (Value.iface 56 (Value.agg #[Value.int IntKind.i64 a, Value.int IntKind.i64 b]))).setIfInBounds
            3 (Value.bool true)) = #[Value.pointer (some ⟨B, 0, none⟩), Value.pointer (some ⟨B + 1, 0, none⟩), .iface 56 (.agg #[.int .i64 a, .int .i64 b]), .iface 56 (.agg #[.int .i64 a, .int .i64 b]), .iface 56 (.agg #[.int .i64 a, .int .i64 b]), .bool true, undef, undef] := rfl
  rw [ht]
  clear ht hu
  go_wp2_with fail
  refine (rfaultOf_any a b _).mono ?_
  rintro e w1 ⟨rfl, hb⟩
  have c1 := cell_later hb hB
  have c2 := cell_later hb hC
  have c3 := cell_later hb hD
  have f1 : w1.frozen? ⟨B, 0, none⟩ = false := (hb.frozen (World.block_lt_of_cell? _ _ hB)).trans hBz
  have f2 : w1.frozen? ⟨B + 1, 0, none⟩ = false := (hb.frozen (World.block_lt_of_cell? _ _ hC)).trans hCz
  have f3 : w1.frozen? ⟨B + 1, 1, none⟩ = false := (hb.frozen (World.block_lt_of_cell? _ _ hD)).trans hDz
  clear hB hC hD hBz hCz hDz
  go_wp2
  simp [bodyPostS, results, Try.results98]
  exact ⟨w1, hb, rfl⟩

set_option maxHeartbeats 800000 in
theorem rcatch_idle (p q : Addr) (w : World) :
    CallsD Try.prog 98 #[.pointer (some p), .pointer (some q)] .returning w fun e u' w' => e = .returned (.tuple #[]) ∧ u' = .returning ∧ w' = w := by
  refine callsD_of_wpS Try.func98 rfl fun c₀ cs hu => ?_
  apply wpS_seq
  apply wpS_region
  simp [wpOpsS, go_sem, recoverD, hu, Try.ntmps98, Exit.thenS]
  apply wpS_seq
  apply wpS_region
  simp [wpOpsS, go_sem, Exit.thenS]
  refine wpS_cond (t := false) (by simp [Act.eval, Array.replicate]) ?_
  simp only [Bool.false_eq_true, if_false]
  refine wpS_of_wp (wp_skip ?_)
  cases c₀
  simp_all [bodyPostS, results, Try.results98]


/-- what Alts comes to -/
def AltsPost (ts : List Rd.Tk) (en : Int) (w : World) (e : Ending) (w' : World) : Prop :=
  Below w.heap.size w w' ∧ ∃ v, e = .returned (.tuple #[v, .agg #[.int .i64 (Rd.altsG ts en).1, .int .i64 (Rd.altsG ts en).2.1]]) ∧ AlsAt w.heap.size w' v (Rd.altsG ts en).2.2

set_option maxHeartbeats 1600000 in
theorem alts_any (ao : Option Addr) (c : Nat) (ts : List Rd.Tk) (en : Int) (w : World) (hl : ts.length ≤ 2000) (hx : ∀ t ∈ ts, t.text.size ≤ 281474976710656) (hc : ts.length ≤ c ∧ c ≤ maxLen) (h : TksAt w.heap.size w ao ts) :
    Calls Try.prog 78 #[.slice ao ts.length c, .int .i64 en] w (AltsPost ts en w) := by
  have hmf : ∀ (fn : Fn) (first cap : Array Value) (w : World), (Instr.makeFunc fn first cap).run Try.prog w = .ok (.func fn first cap) w := fun _ _ _ _ => rfl
  have HX : Hid _ := hx
  have HT : Hid (TksAt w.heap.size w ao ts) := h
  have HC : Hid _ := hc
  clear hx h hc
  go_enter_defers Try.func78, Try.ntmps78
  go_wp2_with fail
  have H3 : RS (((w.alloc (Obj.cells #[Value.slice none 0 0] 81)).alloc (Obj.cells #[Value.int IntKind.i64 0, Value.int IntKind.i64 0] 56)).alloc (Obj.cells #[Value.slice ao ts.length c, Value.int IntKind.i64 en, Value.int IntKind.i64 0, Value.slice none 0 0] 126)) (w.heap.size + 1 + 1) ao c ts en 0 none 0 [] := by
    refine ⟨?_, ?_, AlsAt.nil _ _, HC.out⟩
    · have := heap_alloc_new ((w.alloc (Obj.cells #[Value.slice none 0 0] 81)).alloc (Obj.cells #[Value.int IntKind.i64 0, Value.int IntKind.i64 0] 56)) (Obj.cells #[Value.slice ao ts.length c, Value.int IntKind.i64 en, Value.int IntKind.i64 0, Value.slice none 0 0] 126)
      simpa using this
    · exact (HT.out.later ((((Below.refl _ w).alloc (Nat.le_refl _) _).alloc (by simp) _).alloc (by simp; omega) _)).mono (by omega)
  refine (definitions_any _ (w.heap.size + 1 + 1) ao c ts en none 0 hl HX.out H3).mono ?_
  rintro e w1 ⟨hb, hcase⟩
  have c0 : w1.cell? ⟨w.heap.size, 0, none⟩ = some (.slice none 0 0) := (hb.cell (by simp; omega)).trans (by simp [go_sem])
  have c1 : w1.cell? ⟨w.heap.size + 1, 0, none⟩ = some (.int .i64 0) := (hb.cell (by simp)).trans (by simp [go_sem])
  have c2 : w1.cell? ⟨w.heap.size + 1, 1, none⟩ = some (.int .i64 0) := (hb.cell (by simp)).trans (by simp [go_sem])
  have f0 : w1.frozen? ⟨w.heap.size, 0, none⟩ = false := (hb.frozen (by simp; omega)).trans (by simp [go_sem])
  have f1 : w1.frozen? ⟨w.heap.size + 1, 0, none⟩ = false := (hb.frozen (by simp)).trans (by simp [go_sem])
  have f2 : w1.frozen? ⟨w.heap.size + 1, 1, none⟩ = false := (hb.frozen (by simp)).trans (by simp [go_sem])
  have hz : w.heap.size + 1 < w1.heap.size := by have := hb.size; simp at this; omega
  have hb0 : Below w.heap.size w w1 := ((((Below.refl _ w).alloc (Nat.le_refl _) _).alloc (by simp) _).alloc (by simp; omega) _).trans (hb.mono (by omega))
  clear hb H3 HT HC HX
  rcases hcase with ⟨⟨n, a⟩, HA, rfl⟩ | ⟨acc, xo, xc, ha, hrs, rfl, HA⟩
  · have HG2 : Hid (Rd.altsG ts en = (n, a, [])) := Rd.altsG_err HA
    clear HA
    unfold thrown
    go_wp2
    refine leaves_cons (f := 98) (args := #[.pointer (some ⟨w.heap.size, 0, none⟩), .pointer (some ⟨w.heap.size + 1, 0, none⟩)]) (by simp) (by simp [go_sem]) ?_
    refine (rcatch_panicking w.heap.size (.slice none 0 0) (.int .i64 0) (.int .i64 0) n a [] _ c0 f0 c1 f1 c2 f2).mono ?_
    rintro e u' w'' ⟨rfl, rfl, w2, hb2, rfl⟩
    have hb3 : Below w.heap.size w w2 := hb0.trans (hb2.mono (by omega))
    have P : AltsPost ts en w (.returned (.tuple #[.slice none 0 0, .agg #[.int .i64 n, .int .i64 a]])) (((w2.setCell ⟨w.heap.size, 0, none⟩ (.slice none 0 0)).setCell ⟨w.heap.size + 1, 0, none⟩ (.int .i64 n)).setCell ⟨w.heap.size + 1, 1, none⟩ (.int .i64 a)) := by
      refine ⟨((hb3.setCell (by exact Nat.le_refl _) _).setCell (by exact Nat.le_succ _) _).setCell (by exact Nat.le_succ _) _, .slice none 0 0, ?_, ?_⟩
      · rw [HG2.out]
      · rw [HG2.out]; exact AlsAt.nil _ _
    have d0 := cell_later hb2 c0
    have d1 := cell_later hb2 c1
    have d2 := cell_later hb2 c2
    simp [Leaves, settle, results, Try.results78, go_sem, d0, d1, d2]
    exact P
  · have HG2 : Hid (Rd.altsG ts en = (0, 0, acc)) := Rd.altsG_ok HA
    obtain ⟨r0, r1, r2, r3, z0, z1, z2, z3⟩ := cells_four hrs.blk
    have HO : Hid (AlsAt (w.heap.size + 1 + 1 + 1) w1 (.slice xo acc.length xc) acc) := hrs.own
    clear HA hrs
    go_wp2
    refine leaves_cons (f := 98) (args := #[.pointer (some ⟨w.heap.size, 0, none⟩), .pointer (some ⟨w.heap.size + 1, 0, none⟩)]) (by simp) (by simp [go_sem]) ?_
    refine (rcatch_idle ⟨w.heap.size, 0, none⟩ ⟨w.heap.size + 1, 0, none⟩ _).mono ?_
    rintro e u' w'' ⟨rfl, rfl, rfl⟩
    have P : AltsPost ts en w (.returned (.tuple #[.slice xo acc.length xc, .agg #[.int .i64 0, .int .i64 0]])) (((w1.setCell ⟨w.heap.size, 0, none⟩ (.slice xo acc.length xc)).setCell ⟨w.heap.size + 1, 0, none⟩ (.int .i64 0)).setCell ⟨w.heap.size + 1, 1, none⟩ (.int .i64 0)) := by
      refine ⟨((hb0.setCell (by exact Nat.le_refl _) _).setCell (by exact Nat.le_succ _) _).setCell (by exact Nat.le_succ _) _, .slice xo acc.length xc, ?_, ?_⟩
      · rw [HG2.out]
      · rw [HG2.out]
        exact (((HO.out.setCell (by show w.heap.size < _; omega) _).setCell (by show w.heap.size + 1 < _; omega) _).setCell (by show w.heap.size + 1 < _; omega) _).from (by omega)
    simp [Leaves, settle, results, Try.results78, go_sem, c0, c1, c2]
    exact P

/-- Alts where what it comes to is known -/
theorem alts_is (ao : Option Addr) (c : Nat) (ts : List Rd.Tk) (en : Int) (E At : Int) (xs : List Rd.Al) (w : World) (hl : ts.length ≤ 2000) (hx : ∀ t ∈ ts, t.text.size ≤ 281474976710656) (hc : ts.length ≤ c ∧ c ≤ maxLen) (h : TksAt w.heap.size w ao ts)
    (HG : Hid (Rd.altsG ts en = (E, At, xs))) :
    Calls Try.prog 78 #[.slice ao ts.length c, .int .i64 en] w fun e w' => ∃ xo xc, e = .returned (.tuple #[.slice xo xs.length xc, .agg #[.int .i64 E, .int .i64 At]]) ∧ Hid (Below w.heap.size w w') ∧ Hid (AlsAt w.heap.size w' (.slice xo xs.length xc) xs) := by
  refine (alts_any ao c ts en w hl hx hc h).mono ?_
  rintro e w1 ⟨hb, v, rfl, hown⟩
  rw [HG.out] at hown ⊢
  obtain ⟨xo, xc, hv, _⟩ := hown.read
  subst hv
  exact ⟨xo, xc, rfl, hb, hown⟩
end Go.Proofs.Ytdocbgfpnaiijaa

namespace Go.Proofs.Ytdocbgfpnaiijaa
open Go.RowKit

theorem AlsAt.right {base : Nat} {w : World} {ao : Option Addr} {n c : Nat} {xs : List Rd.Al} (h : AlsAt base w (.slice ao n c) xs) : ∀ i (hi : i < xs.length), ∃ g ro rc, ao = some ⟨g, 0, none⟩ ∧ g < w.heap.size ∧
      w.cell? ⟨g, i * 4, none⟩ = some (.int .i64 xs[i].1.kind) ∧ w.cell? ⟨g, i * 4 + 1, none⟩ = some (.string xs[i].1.text) ∧ w.cell? ⟨g, i * 4 + 2, none⟩ = some (.int .i64 xs[i].1.pos) ∧
      w.cell? ⟨g, i * 4 + 3, none⟩ = some (.slice ro xs[i].2.length rc) ∧ TksAt w.heap.size w ro xs[i].2 := by
  intro i hi
  obtain ⟨ao', c', hv, _, hr⟩ := h.read
  cases hv
  obtain ⟨g, ro, rc, h1, _, h2, h3⟩ := hr i hi
  exact ⟨g, ro, rc, h1, h2, h3⟩

theorem TksAt.drewN {N : Nat} {w : World} {ao : Option Addr} {ts : List Rd.Tk} (h : TksAt N w ao ts) (n : Nat) : TksAt N (w.drewN n) ao ts := h.later (below_drewN (Below.refl _ w) n)

/-- a token of layer 1 -/
def tkOf (t : Lx.Tok) : Rd.Tk := ⟨t.kind, ⟨t.text.toArray⟩, t.pos⟩
theorem toksCells_tks (us : List Lx.Tok) : toksCells us = tksCells (us.map tkOf) := by
  induction us with
  | nil => rfl
  | cons t r ih => rw [show toksCells (t :: r) = tokCells t ++ toksCells r from rfl, ih]; rfl

/-- Tokens where what it comes to is known -/
theorem rtokens_is (s : ByteArray) (E At : Int) (us : List Lx.Tok) (ts : List Rd.Tk) (w : World) (hs : s.size ≤ maxLen) (HG : Hid (tokensG s.data.toList = (E, At, us))) (ht : us.map tkOf = ts) :
    Calls Try.prog 76 #[.string s] w fun e w' => ∃ ao c, e = .returned (.tuple #[.slice ao ts.length c, .agg #[.int .i64 E, .int .i64 At]]) ∧ Hid (Below w.heap.size w w') ∧
      Hid (TksAt w'.heap.size w' ao ts) ∧ Hid (ts.length ≤ c ∧ c ≤ maxLen) := by
  refine (tokens_any s w hs).mono ?_
  rintro e w1 ⟨hb, v, rfl, hown⟩
  rw [HG.out] at hown ⊢
  simp only at hown
  rw [toksCells_tks, ht, show us.length = ts.length from by rw [← ht, List.length_map]] at hown
  obtain ⟨ao, c, rfl, h1, h2, h3, _⟩ := tks_read hown
  exact ⟨ao, c, rfl, hb, h1, h2, h3⟩
end Go.Proofs.Ytdocbgfpnaiijaa
