/-
  Layer 2 (read): definition, definitions: all definitions, or the fault that is thrown.
-/
import Derived.Test.YtimjopaedfefmaaReadAlternative
namespace Go.Proofs.Ytimjopaedfefmaa
open Go.RowKit

/-- what definition comes to -/
def DefPost (w : World) (B : Nat) (ao : Option Addr) (c : Nat) (ts : List Rd.Tk) (en : Int) (k : Nat) (acc : List Rd.Al) (e : Ending) (w' : World) : Prop :=
  Below B w w' ∧ ((∃ er, Rd.whole en ⟨acc, .start⟩ (ts.drop k) = .error er ∧ e = thrown er) ∨
    (∃ (j : Nat) (acc' : List Rd.Al) (xo : Option Addr) (xc : Nat), k < j ∧ j ≤ ts.length ∧ acc.length < acc'.length ∧ acc'.length ≤ 60 ∧ RS w' B ao c ts en j xo xc acc' ∧
      e = .returned (.tuple #[]) ∧ Rd.whole en ⟨acc, .start⟩ (ts.drop k) = Rd.whole en ⟨acc', .start⟩ (ts.drop j)))

set_option maxHeartbeats 1600000 in
theorem definition_any (w : World) (B : Nat) (ao : Option Addr) (c : Nat) (ts : List Rd.Tk) (en : Int) (k : Nat) (xo : Option Addr) (xc : Nat) (acc : List Rd.Al)
    (hl : ts.length ≤ 2000) (hx : ∀ t ∈ ts, t.text.size ≤ 281474976710656) (hk : k ≤ ts.length) (hk0 : k < ts.length ∨ acc.length = 0) (hacc : acc.length ≤ 60) (h : RS w B ao c ts en k xo xc acc) :
    Calls Try.prog 92 #[.pointer (some ⟨B, 0, none⟩)] w (DefPost w B ao c ts en k acc) := by
  have hlt := h.lt
  have HR : Hid (RS w B ao c ts en k xo xc acc) := h
  have HX : Hid _ := hx
  clear h hx
  go_enter Try.func92, Try.ntmps92
  go_wp2_with fail
  refine (take_any [1] (by decide) w.heap.size _ B _ _ ts en k xo xc acc hl hk (HR.out.later _) ?_).mono ?_
  · intro i hi
    match i, hi with
    | 0, _ => exact one_new w _ _
  rintro e w1 ⟨hg1, (⟨hbad, rfl⟩ | ⟨h', hno, rfl⟩) | ⟨h', hyes, rfl, hrs1⟩⟩
  · have E : Hid (Rd.whole en ⟨acc, .start⟩ (ts.drop k) = .error (12, en)) := by
      show _ = _
      rw [List.drop_of_length_le hbad, Rd.whole_nil]
      simp only [Rd.fin]; rw [if_pos (by omega)]
    unfold thrown
    go_wp2_with fail
    exact ⟨rfl, below_of_grown (grown_trans (grown_of_below ((Below.refl _ _).alloc (Nat.le_refl _) _)) hg1) (Nat.le_of_lt hlt), .inl ⟨_, E.out, rfl⟩⟩
  · have E : Hid (Rd.whole en ⟨acc, .start⟩ (ts.drop k) = .error (12, ts[k].pos)) := by
      show _ = _
      rw [List.drop_eq_getElem_cons h', Rd.whole_err (Rd.step_noname (by simpa using hno))]
    unfold thrown
    go_wp2_with fail
    exact ⟨rfl, below_of_grown (grown_trans (grown_of_below ((Below.refl _ _).alloc (Nat.le_refl _) _)) hg1) (Nat.le_of_lt hlt), .inl ⟨_, E.out, rfl⟩⟩
  · have hlx : ts[k].text.size ≤ 281474976710656 := HX.out _ (List.getElem_mem h')
    have E1 : Hid (Rd.whole en ⟨acc, .start⟩ (ts.drop k) = Rd.whole en ⟨acc, .eq ts[k]⟩ (ts.drop (k + 1))) := by
      show _ = _
      rw [List.drop_eq_getElem_cons h', Rd.whole_ok (Rd.step_name (by simpa using hyes))]
    have HB1 : Hid (Below B w w1) := below_of_grown (grown_trans (grown_of_below ((Below.refl _ _).alloc (Nat.le_refl _) _)) hg1) (Nat.le_of_lt hlt)
    have HR1 : Hid _ := hrs1
    have hlt1 := hrs1.lt
    clear hrs1 hyes hg1 HR
    generalize ts[k] = l at *
    obtain ⟨lk, lx, lp⟩ := l
    unfold tkVal
    simp only at hlx ⊢
    go_wp2_with fail
    refine (take_any [3] (by decide) (w1.heap.size + 1) _ B _ _ ts en (k + 1) xo xc acc hl (by omega) ((HR1.out.later _).later _) ?_).mono ?_
    · intro i hi
      match i, hi with
      | 0, _ => simp
    rintro e w2 ⟨hg2, (⟨hbad, rfl⟩ | ⟨h2, hno, rfl⟩) | ⟨h2, hyes, rfl, hrs2⟩⟩
    · have E : Hid (Rd.whole en ⟨acc, .start⟩ (ts.drop k) = .error (12, en)) := by
        show _ = _
        rw [E1.out, List.drop_of_length_le hbad, Rd.whole_nil]; rfl
      have HB2 : Hid (Below B w w2) := HB1.out.trans (below_of_grown (grown_trans (grown_of_below (((Below.refl _ _).alloc (Nat.le_refl _) _).alloc (by simp) _)) hg2) (Nat.le_of_lt hlt1))
      unfold thrown
      go_wp2_with fail
      exact ⟨rfl, HB2.out, .inl ⟨_, E.out, rfl⟩⟩
    · have E : Hid (Rd.whole en ⟨acc, .start⟩ (ts.drop k) = .error (12, ts[k + 1].pos)) := by
        show _ = _
        rw [E1.out, List.drop_eq_getElem_cons h2, Rd.whole_err (Rd.step_nois (by simpa using hno))]
      have HB2 : Hid (Below B w w2) := HB1.out.trans (below_of_grown (grown_trans (grown_of_below (((Below.refl _ _).alloc (Nat.le_refl _) _).alloc (by simp) _)) hg2) (Nat.le_of_lt hlt1))
      unfold thrown
      go_wp2_with fail
      exact ⟨rfl, HB2.out, .inl ⟨_, E.out, rfl⟩⟩
    · have E2 : Hid (Rd.whole en ⟨acc, .start⟩ (ts.drop k) = Rd.whole en ⟨acc, .body ⟨lk, lx, lp⟩ []⟩ (ts.drop (k + 2))) := by
        show _ = _
        rw [E1.out, List.drop_eq_getElem_cons h2, Rd.whole_ok (Rd.step_is (by simpa using hyes))]
      have HB2 : Hid (Below B w w2) := HB1.out.trans (below_of_grown (grown_trans (grown_of_below (((Below.refl _ _).alloc (Nat.le_refl _) _).alloc (by simp) _)) hg2) (Nat.le_of_lt hlt1))
      have HL2 : Hid (w2.heap[w1.heap.size]? = some (.cells #[.int .i64 lk, .string lx, .int .i64 lp] 37 (0, 0))) := by
        show _ = _
        rw [hg2.block _ (by simp; omega) (fun e => by cases e; omega), Below.heap_alloc _ _ _ (by simp)]
        exact heap_alloc_new w1 _
      have HR2 : Hid _ := hrs2
      have hlt2 := hrs2.lt
      have hsz2 : w1.heap.size < w2.heap.size := (Array.getElem?_eq_some_iff.1 HL2.out).1
      clear hrs2 hyes hg2 HR1 HB1 E1
      generalize ts[k + 1] = y at *
      obtain ⟨yk, yx, yp⟩ := y
      unfold tkVal
      simp only
      have HALT : Hid _ := fun (W : World) (j : Nat) (xo : Option Addr) (xc : Nat) (acc : List Rd.Al) (h1 : j ≤ ts.length) (h2 : acc.length ≤ 60) (h3 : RS W B ao c ts en j xo xc acc) => alternative_any W B ao c ts en j xo xc acc ⟨lk, lx, lp⟩ hl HX.out hlx (by omega) h1 h2 h3
      unfold tkVal at HALT
      go_wp2_with fail
      go_loopg [] (ts.length - (k + 2)) (fun m wr => ∃ (j : Nat) (acc' : List Rd.Al) (xo : Option Addr) (xc : Nat), k < j ∧ j + m = ts.length ∧ acc.length ≤ acc'.length ∧ acc'.length ≤ 60 ∧ Hid (RS wr B ao c ts en j xo xc acc') ∧ Hid (Below B w wr) ∧
          Hid (wr.heap[w1.heap.size]? = some (.cells #[.int .i64 lk, .string lx, .int .i64 lp] 37 (0, 0))) ∧ Hid (Rd.whole en ⟨acc, .start⟩ (ts.drop k) = Rd.whole en ⟨acc', .body ⟨lk, lx, lp⟩ []⟩ (ts.drop j)))
      case atStart => exact ⟨k + 2, acc, xo, xc, by omega, by omega, Nat.le_refl _, hacc, HR2, HB2, HL2, E2⟩
      case round =>
        obtain ⟨j, acc', xo', xc', hj1, hj2, ha1, ha2, hrs, hbr, hbl, hE⟩ := hrel
        obtain ⟨l0, l1, l2, lz0, lz1, lz2⟩ := cells_three hbl.out
        have hltr := hrs.out.lt
        have hszr : w1.heap.size < wr.heap.size := (Array.getElem?_eq_some_iff.1 hbl.out).1
        clear HR2 HB2 HL2 E2
        go_wp2_with fail
        refine (HALT.out wr j xo' xc' acc' (by omega) ha2 hrs.out).mono ?_
        rintro e w3 ⟨hb3, hna3, ⟨er, hw, rfl⟩ | ⟨j', r, xo2, xc2, hjj, hjl, ha3, hrs3, (⟨rfl, hw⟩ | ⟨rfl, hw⟩)⟩⟩
        · have E : Hid (Rd.whole en ⟨acc, .start⟩ (ts.drop k) = .error er) := by show _ = _; rw [hE.out, hw]
          have HB : Hid (Below B w w3) := hbr.out.trans hb3
          clear hE hw
          unfold thrown
          go_wp2_with fail
          exact ⟨rfl, HB.out, .inl ⟨_, E.out, rfl⟩⟩
        · have E : Hid (Rd.whole en ⟨acc, .start⟩ (ts.drop k) = Rd.whole en ⟨acc' ++ [(⟨lk, lx, lp⟩, r)], .body ⟨lk, lx, lp⟩ []⟩ (ts.drop j')) := by show _ = _; rw [hE.out, hw]
          have HB : Hid (Below B w w3) := hbr.out.trans hb3
          have HL : Hid (w3.heap[w1.heap.size]? = some (.cells #[.int .i64 lk, .string lx, .int .i64 lp] 37 (0, 0))) := by
            show _ = _
            rw [hna3.block _ hszr (by omega) (by rw [hbl.out]; intro cur f e; cases e)]; exact hbl.out
          have HRS : Hid _ := hrs3
          clear hE hw hb3 hna3 hrs3 hrs hbl hbr
          go_wp2_with fail
          go_roundg (ts.length - j')
          case rel => exact ⟨j', _, _, _, by omega, by omega, by simp; omega, by simp; omega, HRS, HB, HL, E⟩
          case measure => omega
        · have E : Hid (Rd.whole en ⟨acc, .start⟩ (ts.drop k) = Rd.whole en ⟨acc' ++ [(⟨lk, lx, lp⟩, r)], .start⟩ (ts.drop j')) := by show _ = _; rw [hE.out, hw]
          have HB : Hid (Below B w w3) := hbr.out.trans hb3
          have HRS : Hid _ := hrs3
          clear hE hw hb3 hna3 hrs3 hrs hbl hbr
          go_wp2_with fail
          go_end0
          exact ⟨HB.out, .inr ⟨j', _, _, _, by omega, by omega, by simp; omega, by simp; omega, HRS.out, rfl, E.out⟩⟩

/-- what definitions comes to -/
def DefsPost (w : World) (B : Nat) (ao : Option Addr) (c : Nat) (ts : List Rd.Tk) (en : Int) (e : Ending) (w' : World) : Prop :=
  Below B w w' ∧ ((∃ er, Rd.alts ts en = .error er ∧ e = thrown er) ∨
    (∃ (acc : List Rd.Al) (xo : Option Addr) (xc : Nat), acc.length ≤ 60 ∧ RS w' B ao c ts en ts.length xo xc acc ∧ e = .returned (.tuple #[]) ∧ Rd.alts ts en = .ok acc))

set_option maxHeartbeats 1600000 in
theorem definitions_any (w : World) (B : Nat) (ao : Option Addr) (c : Nat) (ts : List Rd.Tk) (en : Int) (xo : Option Addr) (xc : Nat)
    (hl : ts.length ≤ 2000) (hx : ∀ t ∈ ts, t.text.size ≤ 281474976710656) (h : RS w B ao c ts en 0 xo xc []) :
    Calls Try.prog 83 #[.pointer (some ⟨B, 0, none⟩)] w (DefsPost w B ao c ts en) := by
  have hlt := h.lt
  have HR : Hid (RS w B ao c ts en 0 xo xc []) := h
  have HX : Hid _ := hx
  clear h hx
  go_enter Try.func83, Try.ntmps83
  go_wp2_with fail
  refine (definition_any w B ao c ts en 0 xo xc [] hl HX.out (Nat.zero_le _) (.inr rfl) (by simp) HR.out).mono ?_
  rintro e w1 ⟨hb1, ⟨er, hw, rfl⟩ | ⟨j1, acc1, xo1, xc1, hj1, hj2, ha1, ha2, hrs1, rfl, hw⟩⟩
  · have E : Hid (Rd.alts ts en = .error er) := by show _ = _; rw [Rd.alts]; simpa using hw
    clear hw
    unfold thrown
    go_wp2_with fail
    exact ⟨rfl, hb1, .inl ⟨_, E.out, rfl⟩⟩
  · have E : Hid (Rd.alts ts en = Rd.whole en ⟨acc1, .start⟩ (ts.drop j1)) := by show _ = _; rw [Rd.alts]; simpa using hw
    have HR1 : Hid _ := hrs1
    have HB1 : Hid _ := hb1
    clear hw hrs1 hb1 HR
    go_wp2_with fail
    go_loopg [] (ts.length - j1) (fun m wr => ∃ (j : Nat) (acc : List Rd.Al) (xo : Option Addr) (xc : Nat), j + m = ts.length ∧ 0 < acc.length ∧ acc.length ≤ 60 ∧ Hid (RS wr B ao c ts en j xo xc acc) ∧ Hid (Below B w wr) ∧
        Hid (Rd.alts ts en = Rd.whole en ⟨acc, .start⟩ (ts.drop j)))
    case atStart => exact ⟨j1, acc1, xo1, xc1, by omega, by simp at ha1; omega, ha2, HR1, HB1, E⟩
    case round =>
      obtain ⟨j, acc, xo', xc', hj, ha3, ha4, hrs, hbr, hE⟩ := hrel
      obtain ⟨r0, r1, r2, r3, z0, z1, z2, z3⟩ := cells_four hrs.out.blk
      have hltr := hrs.out.lt
      clear HR1 HB1 E
      by_cases hjl : j < ts.length
      · have hji : (j : Int) < (ts.length : Int) := by omega
        go_wp2_with fail
        go_quiet (fail)
        go_wp2_with fail
        refine (definition_any _ B ao c ts en j xo' xc' acc hl HX.out (by omega) (.inl hjl) ha4 (hrs.out.drewN _)).mono ?_
        rintro e w3 ⟨hb3, ⟨er, hw, rfl⟩ | ⟨j3, acc3, xo3, xc3, hj3, hj4, ha5, ha6, hrs3, rfl, hw⟩⟩
        · have E : Hid (Rd.alts ts en = .error er) := by show _ = _; rw [hE.out, hw]
          have HB : Hid (Below B w w3) := (below_drewN hbr.out _).trans hb3
          clear hE hw hb3 hbr
          unfold thrown
          go_wp2_with fail
          exact ⟨rfl, HB.out, .inl ⟨_, E.out, rfl⟩⟩
        · have E : Hid (Rd.alts ts en = Rd.whole en ⟨acc3, .start⟩ (ts.drop j3)) := by show _ = _; rw [hE.out, hw]
          have HB : Hid (Below B w w3) := (below_drewN hbr.out _).trans hb3
          have HRS : Hid _ := hrs3
          clear hE hw hb3 hbr hrs3 hrs r0 r1 r2 r3 z0 z1 z2 z3
          go_wp2_with fail
          go_roundg (ts.length - j3)
          case rel => exact ⟨j3, _, _, _, by omega, by omega, ha6, HRS, HB, E⟩
          case measure => omega
      · have e : j = ts.length := by omega
        subst e
        have hji : decide ((ts.length : Int) < (ts.length : Int)) = false := by simp
        have E : Hid (Rd.alts ts en = .ok acc) := by
          show _ = _
          rw [hE.out, List.drop_of_length_le (Nat.le_refl _), Rd.whole_nil]
          simp only [Rd.fin]; rw [if_neg (by omega)]
        clear hE hjl
        go_wp2_with fail
        go_quiet (fail)
        go_wp2_with fail
        go_end0
        exact ⟨below_drewN hbr.out _, .inr ⟨acc, _, _, ha4, hrs.out.drewN _, rfl, E.out⟩⟩
end Go.Proofs.Ytimjopaedfefmaa
