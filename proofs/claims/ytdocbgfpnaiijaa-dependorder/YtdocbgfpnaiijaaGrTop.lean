/-
  Layer 3 (grammar): grammarOf: the grammar of alternatives, or the fault that is thrown.
  Layer 3 (grammar): altsOf, Of: the grammar of any text, or the fault.
-/
import Derived.Test.YtdocbgfpnaiijaaGrRules
import Derived.Test.YtdocbgfpnaiijaaGrAlike
import Derived.Test.YtdocbgfpnaiijaaGrMath
namespace Go.Proofs.Ytdocbgfpnaiijaa
open Go.RowKit

theorem Try.infoRl : (Try.prog.info? 31).map (fun i => (i.zero, i.size, i.bytes)) = some (some (.agg #[.int .i64 0, .slice none 0 0]), 2, 32) := by kernel_rfl

/-- append of a rule onto a row of rules -/
theorem wpList_append_rl {ops : Array Oper} {rest : List Oper} {o : Oper} {a : Act} {Q : Exit → Act → World → Prop} {w : World} (hw : Region.wanted o (yielded ops a.tmps) = true) (s x : Operand)
    (ho : o.op = .call { callee := .builtin .append, args := #[s, x], argTypes := #[23, 23] }) (base : Nat) (v : Value) (rs : List Gr.Rl) (hs : a.eval s = v) (hown : OwnRls base w v rs)
    (b c : Nat) (r : Gr.Rl) (ro : Option Addr) (rc : Nat) (hx : a.eval x = .slice (some ⟨b, 0, none⟩) 1 c) (hc0 : w.cell? ⟨b, 0, none⟩ = some (.int .i64 r.1)) (hc1 : w.cell? ⟨b, 1, none⟩ = some (.slice ro r.2.length rc))
    (hr : OwnInts base w (.slice ro r.2.length rc) r.2) (hb : rs.length + 1 ≤ 2000) (hbase : base ≤ w.heap.size)
    (h : ∀ g cap w', OwnRls base w' (.slice (some ⟨g, 0, none⟩) (rs.length + 1) cap) (rs ++ [r]) → w.grownBy w' v.ownBlock → wpList Try.prog ops Q rest (a.put o.dst (.slice (some ⟨g, 0, none⟩) (rs.length + 1) cap)) w') : wpList Try.prog ops Q (o :: rest) a w := by
  obtain ⟨iA, hi, hz0, hz1, hz2⟩ := info_parts Try.infoRl
  obtain ⟨ps, h1, h2, h3⟩ := hown
  have hpl : ps.length = rs.length := by rw [← h1, List.length_map]
  refine wpList_wanted hw fun K hK => wp_append_lies _ s x 23 ho base 31 iA _ 2 32 Try.underlying23 hi hz0 hz1 hz2 rfl (by decide) v ps.length _ hs h2 ⟨b, 0, none⟩ 1 c (rlCells (r, .slice ro r.2.length rc)) hx rfl ?_ (by simp [rlCells, Value.oneCell']) (by decide) (by unfold maxLen; omega) (by omega) hbase _ rfl
    (fun g cap w' h4 h5 _ _ => ?_)
  · intro j y hj
    match j with
    | 0 => simp [rlCells] at hj; subst hj; simpa [addr_zero_add] using hc0
    | 1 => simp [rlCells] at hj; subst hj; simpa [addr_zero_add] using hc1
    | j + 2 => simp [rlCells] at hj
  · have := OwnRls.push h1 h2 h3 (r, .slice ro r.2.length rc) hr h4 h5
    rw [hpl] at this ⊢
    exact hK _ _ (h g cap w' this h5)

/-- what holds of memory while grammarOf goes: all that there was ahead of its grammar's block X; that block; the rules -/
structure GInv (w2 wr : World) (tl nl : Nat) (A : GA) (ra : Option Addr) (rc : Nat) (rs : List Gr.Rl) : Prop where
  below : Below w2.heap.size w2 wr
  lt : w2.heap.size < wr.heap.size
  gb : wr.heap[w2.heap.size]? = some (.cells #[.slice A.ta tl A.tc, .slice A.na nl A.nc, .slice ra rs.length rc] 25 (0, 0))
  own : OwnRls (w2.heap.size + 1) wr (.slice ra rs.length rc) rs

theorem GInv.later {w2 wr w1 : World} {tl nl : Nat} {A : GA} {ra : Option Addr} {rc : Nat} {rs : List Gr.Rl} (h : GInv w2 wr tl nl A ra rc rs) (hb : Below wr.heap.size wr w1) : GInv w2 w1 tl nl A ra rc rs where
  below := h.below.trans (hb.mono h.below.size)
  lt := Nat.lt_of_lt_of_le h.lt hb.size
  gb := by rw [hb.block _ h.lt]; exact h.gb
  own := h.own.below hb

theorem OwnRls.lt {base : Nat} {w : World} {v : Value} {rs : List Gr.Rl} (h : OwnRls base w v rs) (k : Nat) (hk : v.ownBlock = some k) : base ≤ k := by
  obtain ⟨ps, _, h2, _⟩ := h
  exact (h2.lt k hk).1

theorem GInv.grown {w2 wr w1 : World} {tl nl : Nat} {A : GA} {ra : Option Addr} {rc : Nat} {rs : List Gr.Rl} (h : GInv w2 wr tl nl A ra rc rs) (hg : wr.grownBy w1 (Value.slice ra rs.length rc).ownBlock) :
    w1.heap[w2.heap.size]? = some (.cells #[.slice A.ta tl A.tc, .slice A.na nl A.nc, .slice ra rs.length rc] 25 (0, 0)) := by
  rw [hg.block _ h.lt (fun e => by have := h.own.lt _ e.symm; omega)]; exact h.gb

theorem GInv.push {w2 wr w1 : World} {tl nl : Nat} {A : GA} {ra : Option Addr} {rc : Nat} {rs rs' : List Gr.Rl} (h : GInv w2 wr tl nl A ra rc rs) {ra' : Option Addr} {rc' : Nat} (hg : wr.grownBy w1 (Value.slice ra rs.length rc).ownBlock)
    (ho : OwnRls (w2.heap.size + 1) w1 (.slice ra' rs'.length rc') rs') : GInv w2 (w1.setCell ⟨w2.heap.size, 2, none⟩ (.slice ra' rs'.length rc')) tl nl A ra' rc' rs' where
  below := (h.below.grown hg h.below.size (fun k hk => by have := h.own.lt k hk; omega)).setCell (by exact Nat.le_refl _) _
  lt := by rw [size_setCell]; exact Nat.lt_of_lt_of_le h.lt hg.size
  gb := by simp [World.setCell, Array.getElem?_modify, h.grown hg]
  own := ho.setCell (by exact Nat.lt_succ_self _) _

/-- a grammar in rows of one's own, from a block on -/
structure GmOwn (base : Nat) (w : World) (g : Gr.Gm) (A : GA) : Prop where
  terms : OwnStrs base w (.slice A.ta g.terms.length A.tc) g.terms
  names : OwnStrs base w (.slice A.na g.names.length A.nc) g.names
  rules : OwnRls base w (.slice A.ra g.rules.length A.rc) g.rules
  ttext : ∀ s ∈ g.terms, s.size ≤ maxLen
  ntext : ∀ s ∈ g.names, s.size ≤ maxLen

theorem GmOwn.at {base : Nat} {w : World} {g : Gr.Gm} {A : GA} (h : GmOwn base w g A) : GmAt w.heap.size w g A := by
  obtain ⟨_, _, hv, j1, j2, j3, _⟩ := OwnStrs.read h.terms
  cases hv
  obtain ⟨_, _, hv, m1, m2, m3, _⟩ := OwnStrs.read h.names
  cases hv
  obtain ⟨_, _, hv, n1, n2, n3, _⟩ := h.rules.read
  cases hv
  exact ⟨j1, m1, n1, ⟨j2, j3⟩, ⟨m2, m3⟩, ⟨n2, n3⟩, h.ttext, h.ntext⟩
theorem GmOwn.below {base : Nat} {w w' : World} {g : Gr.Gm} {A : GA} (h : GmOwn base w g A) (hb : Below w.heap.size w w') : GmOwn base w' g A :=
  ⟨ownsRow_below h.terms hb, ownsRow_below h.names hb, h.rules.below hb, h.ttext, h.ntext⟩
theorem GmOwn.from {base base' : Nat} {w : World} {g : Gr.Gm} {A : GA} (h : GmOwn base w g A) (hb : base' ≤ base) : GmOwn base' w g A :=
  ⟨ownsRow_from h.terms hb, ownsRow_from h.names hb, h.rules.from hb, h.ttext, h.ntext⟩
theorem GmOwn.setCell {base : Nat} {w : World} {g : Gr.Gm} {A : GA} (h : GmOwn base w g A) {a : Addr} (ha : a.block < base) (u : Value) : GmOwn base (w.setCell a u) g A :=
  ⟨ownsRow_setCell_below h.terms ha u, ownsRow_setCell_below h.names ha u, h.rules.setCell ha u, h.ttext, h.ntext⟩
theorem GmOwn.none (base : Nat) (w : World) : GmOwn base w ⟨[], [], []⟩ ⟨.none, 0, .none, 0, .none, 0⟩ :=
  ⟨World.ownsRow_nil _ _ _ _, World.ownsRow_nil _ _ _ _, OwnRls.nil _ _, fun s hs => by simp at hs, fun s hs => by simp at hs⟩

/-- what grammarOf comes to -/
def GofPost (xs : List Rd.Al) (w : World) (e : Ending) (w' : World) : Prop :=
  Below w.heap.size w w' ∧ ((∃ er, Gr.of xs = .error er ∧ e = thrown er) ∨ (∃ g A, Gr.of xs = .ok g ∧ e = .returned (.agg (gmCells g A)) ∧ GmOwn w.heap.size w' g A))

set_option maxRecDepth 100000 in
set_option maxHeartbeats 6400000 in
theorem grammarOf_any (xs : List Rd.Al) (hl : xs.length ≤ 60) (h8 : ∀ x ∈ xs, x.2.length ≤ 8) (hx : ∀ x ∈ xs, x.1.text.size ≤ maxLen ∧ ∀ t ∈ x.2, t.text.size ≤ maxLen) (ao : Option Addr) (c base : Nat) (w : World) (h : AlsAt base w (.slice ao xs.length c) xs) :
    Calls Try.prog 51 #[.slice ao xs.length c] w (GofPost xs w) := by
  have HA : Hid (AlsAt base w (.slice ao xs.length c) xs) := h
  have H8 : Hid _ := h8
  have HX : Hid _ := hx
  clear h h8 hx
  go_enter Try.func51, Try.ntmps51
  go_wp2_with fail
  have hba : Hid (Below w.heap.size w (w.alloc (Obj.cells #[Value.slice none 0 0, Value.slice none 0 0, Value.slice none 0 0] 25))) := (Below.refl _ w).alloc (Nat.le_refl _) _
  refine (quotesOf_any xs hl H8.out ao c base _ (HA.out.below hba.out)).mono ?_
  rintro e w1 ⟨to, tc, rfl, ho1, hb1⟩
  have hb1w : Hid (Below w.heap.size w w1) := hba.out.trans (hb1.mono hba.out.size)
  have hz1 : w.heap.size < w1.heap.size := by have := hb1.size; simp at this; omega
  have hr1 : w1.heap[w.heap.size]? = some (.cells #[.slice none 0 0, .slice none 0 0, .slice none 0 0] 25 (0, 0)) := by
    rw [hb1.block _ (by simp)]; exact heap_alloc_new w _
  go_wp2_with fail
  refine (leftSides_any xs hl ao c base _ (HA.out.below hb1w.out)).mono ?_
  rintro e w2 ⟨no, nc, rfl, ho2, hb2⟩
  have hbw : Hid (Below w.heap.size w w2) := hb1w.out.trans (hb2.mono hb1w.out.size)
  have hz2 : w.heap.size < w2.heap.size := Nat.lt_of_lt_of_le hz1 hb2.size
  have hr2 : w2.heap[w.heap.size]? = some (.cells #[.slice none 0 0, .slice none 0 0, .slice none 0 0] 25 (0, 0)) := by
    rw [hb2.block _ hz1]; exact hr1
  obtain ⟨_, _, hv1, hs1, hc1, hm1, _⟩ := OwnStrs.read (ownsRow_below ho1 hb2)
  obtain ⟨_, _, hv2, hs2, hc2, hm2, _⟩ := OwnStrs.read ho2
  cases hv1
  cases hv2
  have hnl := Gr.names_len xs xs.length
  have htl := Gr.terms_len xs H8.out xs.length
  rw [List.take_length] at hnl htl
  have HTM : Hid (∀ s ∈ Gr.terms xs, s.size ≤ maxLen) := fun s hs => by obtain ⟨a, ha, t, ht, _, rfl⟩ := Gr.terms_mem xs s hs; exact (HX.out a ha).2 t ht
  have HNM : Hid (∀ s ∈ Gr.names xs, s.size ≤ maxLen) := fun s hs => by obtain ⟨a, ha, rfl⟩ := Gr.names_mem xs s hs; exact (HX.out a ha).1
  have EU : Hid (∀ p, Gr.undef (Gr.names xs) xs = some p → Gr.of xs = .error (13, p)) := fun p hp => by unfold Gr.of; rw [hp]
  have EL : Hid (Gr.undef (Gr.names xs) xs = none → (40 < (Gr.names xs).length ∨ 40 < (Gr.terms xs).length) → Gr.of xs = .error (14, 0)) := fun hp hq => by unfold Gr.of; rw [hp]; simp only; rw [if_pos hq]
  have EO : Hid (Gr.undef (Gr.names xs) xs = none → ¬ (40 < (Gr.names xs).length ∨ 40 < (Gr.terms xs).length) → Gr.of xs = .ok ⟨Gr.terms xs, Gr.names xs, Gr.rules (Gr.terms xs) (Gr.names xs) xs⟩) := fun hp hq => by unfold Gr.of; rw [hp]; simp only; rw [if_neg hq]
  have RS : Hid (∀ k (h : k < xs.length), Gr.rules (Gr.terms xs) (Gr.names xs) (xs.take (k + 1)) = Gr.put (Gr.rules (Gr.terms xs) (Gr.names xs) (xs.take k)) (Gr.rule (Gr.terms xs) (Gr.names xs) xs[k])) := fun k h => Gr.rules_step _ _ xs k h
  generalize hns : Gr.names xs = ns at *
  generalize hts : Gr.terms xs = ts at *
  clear hns hts
  have HO1 : Hid (OwnStrs (w.heap.size + 1) w2 (.slice to ts.length tc) ts) := ownsRow_from (ownsRow_below ho1 hb2) (by simp)
  have HO2 : Hid (OwnStrs (w.heap.size + 1) w2 (.slice no ns.length nc) ns) := ownsRow_from ho2 hz1
  have HS1 : Hid (StrsAt w2.heap.size w2 to ts) := hs1
  have HS2 : Hid (StrsAt w2.heap.size w2 no ns) := hs2
  have hb3 : Hid (Below w2.heap.size w2 (w2.alloc (Obj.cells #[Value.slice to ts.length tc, Value.slice no ns.length nc, Value.slice none 0 0] 25))) := (Below.refl _ w2).alloc (Nat.le_refl _) _
  have hb3w : Hid (Below w.heap.size w (w2.alloc (Obj.cells #[Value.slice to ts.length tc, Value.slice no ns.length nc, Value.slice none 0 0] 25))) := hbw.out.trans (hb3.out.mono (Nat.le_of_lt hz2))
  have HG3 : Hid (GInv w2 (w2.alloc (Obj.cells #[Value.slice to ts.length tc, Value.slice no ns.length nc, Value.slice none 0 0] 25)) ts.length ns.length ⟨to, tc, no, nc, none, 0⟩ none 0 []) :=
    ⟨hb3.out, by simp, heap_alloc_new w2 _, OwnRls.nil _ _⟩
  clear ho1 ho2 hb1 hb2 hs1 hs2 hr1 hba hb1w
  go_wp2_with fail
  refine (throwUndefined_any xs hl H8.out ao c base no nc ns (by omega) _ (HA.out.below hb3w.out) (HS2.out.later hb3.out).size).mono ?_
  rintro e w4 ⟨hb4, hcase⟩
  have HG4 : Hid (GInv w2 w4 ts.length ns.length ⟨to, tc, no, nc, none, 0⟩ none 0 []) := HG3.out.later hb4
  have hb4w : Hid (Below w.heap.size w w4) := hb3w.out.trans (hb4.mono hb3w.out.size)
  clear HG3 hb3 hb3w hb4
  obtain ⟨g0, g1, g2, gz0, gz1, gz2⟩ := cells_three_z HG4.out.gb
  rcases hcase with ⟨hu, rfl⟩ | ⟨p, hu, rfl⟩
  · replace EL := EL.out hu
    replace EO := EO.out hu
    have EL' : Hid _ := EL
    have EO' : Hid _ := EO
    clear EU hu EL EO
    by_cases hbig : 40 < ns.length ∨ 40 < ts.length
    · have P : Hid (Gr.of xs = .error (14, 0)) := EL'.out hbig
      clear EL' EO'
      have G : Hid (GofPost xs w (thrown (14, 0)) w4) := ⟨hb4w.out, .inl ⟨_, P.out, rfl⟩⟩
      by_cases hn : 40 < ns.length
      · have hni : (40 : Int) < (ns.length : Int) := by omega
        clear hbig hn
        go_wp2_with (first | (go_at_call 73; refine (gthrow_any _ _ _).mono ?_; rintro e w5 ⟨rfl, rfl⟩; unfold thrown at *))
        exact ⟨rfl, G.out⟩
      · have hni : decide ((40 : Int) < (ns.length : Int)) = false := by simp; omega
        have hti : (40 : Int) < (ts.length : Int) := by omega
        clear hbig hn
        go_wp2_with (first | (go_at_call 73; refine (gthrow_any _ _ _).mono ?_; rintro e w5 ⟨rfl, rfl⟩; unfold thrown at *))
        exact ⟨rfl, G.out⟩
    · have P : Hid (Gr.of xs = .ok ⟨ts, ns, Gr.rules ts ns xs⟩) := EO'.out hbig
      clear EL' EO'
      have hni : decide ((40 : Int) < (ns.length : Int)) = false := by simp; omega
      have hti : decide ((40 : Int) < (ts.length : Int)) = false := by simp; omega
      have hn40 : ns.length ≤ 40 := by omega
      have ht40 : ts.length ≤ 40 := by omega
      clear hbig
      go_wp2_with fail
      clear hni hti g0 g1 g2 gz0 gz1 gz2
      go_loopw [29] (fun i wr => ∃ (q : Nat) (ra : Option Addr) (rc : Nat), q ≤ xs.length ∧ i = .int .i64 q ∧ Hid (GInv w2 wr ts.length ns.length ⟨to, tc, no, nc, none, 0⟩ ra rc (Gr.rules ts ns (xs.take q)))) (fun i _ => xs.length - (intOf i).toNat)
      case atStart => exact ⟨0, none, 0, Nat.zero_le _, rfl, HG4⟩
      case round =>
        obtain ⟨q, ra, rc, hq, rfl, hinv⟩ := hrel
        clear HG4 hb4w
        obtain ⟨g0, g1, g2, gz0, gz1, gz2⟩ := cells_three_z hinv.out.gb
        have hlt0 := hinv.out.lt
        have hbr : Hid (Below w.heap.size w wr) := hbw.out.trans (hinv.out.below.mono (Nat.le_of_lt hz2))
        have hrl := Gr.rules_len ts ns xs q
        by_cases hlt : q < xs.length
        · obtain ⟨g, ro, rrc, rfl, hg, a0, a1, a2, a3, at4⟩ := HA.out.right q hlt
          replace a0 := cell_later hbr.out a0
          replace a1 := cell_later hbr.out a1
          replace a2 := cell_later hbr.out a2
          replace a3 := cell_later hbr.out a3
          have HT : Hid (TksAt w.heap.size w ro xs[q].2) := at4
          have hyl := H8.out xs[q] (List.getElem_mem hlt)
          have R : Hid _ := RS.out q hlt
          have HR8 : Hid (∀ r ∈ Gr.rules ts ns (xs.take q), r.2.length ≤ 8) := Gr.rules_right ts ns xs H8.out q
          clear at4
          generalize xs[q] = y at *
          obtain ⟨⟨yk, yx, yp⟩, yr⟩ := y
          simp only at a0 a1 a2 a3 HT hyl
          generalize Gr.rules ts ns (xs.take q) = rs at *
          have hb5 : Hid (Below wr.heap.size wr (wr.alloc (Obj.cells #[Value.int IntKind.i64 yk, Value.string yx, Value.int IntKind.i64 yp, Value.slice ro yr.length rrc] 104))) := (Below.refl _ wr).alloc (Nat.le_refl _) _
          have hb5w : Hid (Below w.heap.size w (wr.alloc (Obj.cells #[Value.int IntKind.i64 yk, Value.string yx, Value.int IntKind.i64 yp, Value.slice ro yr.length rrc] 104))) := hbr.out.trans (hb5.out.mono hbr.out.size)
          have hb52 : Hid (Below w2.heap.size w2 (wr.alloc (Obj.cells #[Value.int IntKind.i64 yk, Value.string yx, Value.int IntKind.i64 yp, Value.slice ro yr.length rrc] 104))) := hinv.out.below.trans (hb5.out.mono hinv.out.below.size)
          go_wp2_with fail
          refine (ruleOf_any ⟨ts, ns, rs⟩ ⟨to, tc, no, nc, ra, rc⟩ ⟨yk, yx, yp⟩ yr ro rrc _ hyl (HT.out.later hb5w.out).size (HS1.out.later hb52.out).size (HS2.out.later hb52.out).size (by show ts.length ≤ 2000; omega) (by show ns.length ≤ 2000; omega)).mono ?_
          rintro e w5 ⟨xo, xc, rfl, hoi, hb6⟩
          simp only at hoi R ⊢
          have hr8 : (Gr.rule ts ns (⟨yk, yx, yp⟩, yr)).2.length ≤ 8 := by simpa [Gr.rule] using hyl
          generalize Gr.rule ts ns (⟨yk, yx, yp⟩, yr) = r at *
          obtain ⟨rl, rr⟩ := r
          simp only at hoi hr8 ⊢
          have HG5 : Hid (GInv w2 w5 ts.length ns.length ⟨to, tc, no, nc, none, 0⟩ ra rc rs) := (hinv.out.later hb5.out).later hb6
          have HOI : Hid (OwnInts (w2.heap.size + 1) w5 (.slice xo rr.length xc) rr) := ownsRow_from hoi (by simp; omega)
          clear hb5 hb5w hb52 hb6 hoi a0 a1 a2 a3 g0 g1 g2 gz0 gz1 gz2 hinv HT
          obtain ⟨g0, g1, g2, gz0, gz1, gz2⟩ := cells_three_z HG5.out.gb
          have hlt5 := HG5.out.lt
          have hb7 : Hid (Below w5.heap.size w5 (w5.alloc (Obj.cells #[Value.int IntKind.i64 rl, Value.slice xo rr.length xc] 31))) := (Below.refl _ w5).alloc (Nat.le_refl _) _
          have HAL : Hid (∀ b, Gr.has (rl, rr) rs = b → Calls Try.prog 75 #[.slice ra rs.length rc, .agg #[.int .i64 rl, .slice xo rr.length xc]] (w5.alloc (Obj.cells #[Value.int IntKind.i64 rl, Value.slice xo rr.length xc] 31))
              fun e w' => e = .returned (.bool b) ∧ Below (w5.alloc (Obj.cells #[Value.int IntKind.i64 rl, Value.slice xo rr.length xc] 31)).heap.size (w5.alloc (Obj.cells #[Value.int IntKind.i64 rl, Value.slice xo rr.length xc] 31)) w') := fun b hb => by
            obtain ⟨_, _, hv, hrd, _⟩ := (HG5.out.own.below hb7.out).read
            cases hv
            obtain ⟨_, _, hv, hid, _⟩ := OwnInts.read (ownsRow_below HOI.out hb7.out)
            cases hv
            exact hasAlike_is b rs (rl, rr) (by omega) (fun r hr => by have := HR8.out r hr; omega) ra xo rc xc _ hrd hid hb
          cases hin : Gr.has (rl, rr) rs
          · have HP : Hid (Gr.put rs (rl, rr) = rs ++ [(rl, rr)]) := Gr.put_new (Gr.has_no hin)
            rw [HP.out] at R
            have HAL' : Hid (∀ _ : Unit, _) := fun _ => HAL.out _ hin
            clear HAL hin HP
            go_wp2_with fail
            refine (HAL'.out ()).mono ?_
            rintro e w8 ⟨rfl, hb8⟩
            have HG8 : Hid (GInv w2 w8 ts.length ns.length ⟨to, tc, no, nc, none, 0⟩ ra rc rs) := (HG5.out.later hb7.out).later hb8
            have HO8 : Hid (OwnInts (w2.heap.size + 1) w8 (.slice xo rr.length xc) rr) := ownsRow_below (ownsRow_below HOI.out hb7.out) hb8
            have r0 : w8.cell? ⟨w5.heap.size, 0, none⟩ = some (.int .i64 rl) := (hb8.cell (by simp)).trans (by simp [go_sem])
            have r1 : w8.cell? ⟨w5.heap.size, 1, none⟩ = some (.slice xo rr.length xc) := (hb8.cell (by simp)).trans (by simp [go_sem])
            have hz8 : w5.heap.size < w8.heap.size := by have := hb8.size; simp at this; omega
            clear g0 g1 g2 gz0 gz1 gz2 HAL' hb8 hb7
            obtain ⟨g0, g1, g2, gz0, gz1, gz2⟩ := cells_three_z HG8.out.gb
            have hlt8 := HG8.out.lt
            have hb9 : Hid (Below w8.heap.size w8 (w8.alloc (Obj.cells #[Value.int IntKind.i64 rl, Value.slice xo rr.length xc] 31))) := (Below.refl _ w8).alloc (Nat.le_refl _) _
            go_wp2_with (first
              | (at_builtin; refine wpList_append_rl rfl _ _ rfl (w2.heap.size + 1) _ rs rfl (HG8.out.own.below hb9.out) w8.heap.size 1 (rl, rr) xo xc rfl (by simp [go_sem]) (by simp [go_sem]) (ownsRow_below HO8.out hb9.out) (by omega) (by simp; omega) ?_; intro ga cap w9 ho9 hg9; obtain ⟨d0, d1, d2, dz0, dz1, dz2⟩ := cells_three_z ((HG8.out.later hb9.out).grown hg9)))
            have HG9 : Hid (GInv w2 (w9.setCell ⟨w2.heap.size, 2, none⟩ (.slice (some ⟨ga, 0, none⟩) (rs.length + 1) cap)) ts.length ns.length ⟨to, tc, no, nc, none, 0⟩ (some ⟨ga, 0, none⟩) cap (Gr.rules ts ns (xs.take (q + 1)))) := by
              rw [R.out]
              have := (HG8.out.later hb9.out).push (rs' := rs ++ [(rl, rr)]) (ra' := some ⟨ga, 0, none⟩) (rc' := cap) hg9 (by rw [List.length_append]; exact ho9)
              rw [List.length_append] at this
              exact this
            go_roundw
            case rel => exact ⟨q + 1, _, _, by omega, by go_num, HG9⟩
            case measure => simp [intOf]; omega
          · have HP : Hid (Gr.put rs (rl, rr) = rs) := Gr.put_in (Gr.has_yes hin)
            rw [HP.out] at R
            have HAL' : Hid (∀ _ : Unit, _) := fun _ => HAL.out _ hin
            clear HAL hin HP
            go_wp2_with fail
            refine (HAL'.out ()).mono ?_
            rintro e w8 ⟨rfl, hb8⟩
            have HG8 : Hid (GInv w2 w8 ts.length ns.length ⟨to, tc, no, nc, none, 0⟩ ra rc rs) := (HG5.out.later hb7.out).later hb8
            rw [← R.out] at HG8
            clear g0 g1 g2 gz0 gz1 gz2 HAL' hb8 hb7
            go_wp2_with fail
            go_roundw
            case rel => exact ⟨q + 1, _, _, by omega, by go_num, HG8⟩
            case measure => simp [intOf]; omega
        · have HK : Hid (xs.take q = xs) := by show _ = _; rw [List.take_of_length_le (by omega)]
          rw [HK.out] at hinv hrl g2
          obtain ⟨e0, e1, e2, ez0, ez1, ez2⟩ := cells_three_z ((hinv.out.below.block _ hz2).trans hr2)
          have hlw : w.heap.size < wr.heap.size := by omega
          have hne : w.heap.size ≠ w2.heap.size := by omega
          go_wp2_with fail
          refine bodyPost_ret (v := .agg #[.slice to ts.length tc, .slice no ns.length nc, .slice ra (Gr.rules ts ns xs).length rc]) (by simp [results, Try.results51, go_sem, e0, e1, e2]) rfl ?_
          have hs0 : w.heap.size < w.heap.size + 1 := Nat.lt_succ_self _
          have hs2 : w.heap.size < w2.heap.size + 1 := by omega
          have k1 := ownsRow_setCell_below (ownsRow_setCell_below (ownsRow_setCell_below (ownsRow_below HO1.out hinv.out.below) (a := ⟨w.heap.size, 0, none⟩) hs0 (.slice to ts.length tc)) (a := ⟨w.heap.size, 1, none⟩) hs0 (.slice no ns.length nc)) (a := ⟨w.heap.size, 2, none⟩) hs0 (.slice ra (Gr.rules ts ns xs).length rc)
          have k2 := ownsRow_setCell_below (ownsRow_setCell_below (ownsRow_setCell_below (ownsRow_below HO2.out hinv.out.below) (a := ⟨w.heap.size, 0, none⟩) hs0 (.slice to ts.length tc)) (a := ⟨w.heap.size, 1, none⟩) hs0 (.slice no ns.length nc)) (a := ⟨w.heap.size, 2, none⟩) hs0 (.slice ra (Gr.rules ts ns xs).length rc)
          have k3 := ((hinv.out.own.setCell (a := ⟨w.heap.size, 0, none⟩) hs2 (.slice to ts.length tc)).setCell (a := ⟨w.heap.size, 1, none⟩) hs2 (.slice no ns.length nc)).setCell (a := ⟨w.heap.size, 2, none⟩) hs2 (.slice ra (Gr.rules ts ns xs).length rc)
          refine ⟨((hbr.out.setCell (by exact Nat.le_refl _) _).setCell (by exact Nat.le_refl _) _).setCell (by exact Nat.le_refl _) _, .inr ⟨⟨ts, ns, Gr.rules ts ns xs⟩, ⟨to, tc, no, nc, ra, rc⟩, P.out, rfl, ?_⟩⟩
          exact ⟨ownsRow_from k1 (by omega), ownsRow_from k2 (by omega), k3.from (by omega), HTM.out, HNM.out⟩
  · have P : Hid (Gr.of xs = .error (13, p)) := EU.out p hu
    clear EU EL EO hu
    unfold thrown
    go_wp2_with fail
    exact ⟨rfl, hb4w.out, .inl ⟨_, P.out, rfl⟩⟩
end Go.Proofs.Ytdocbgfpnaiijaa

namespace Go.Proofs.Ytdocbgfpnaiijaa
open Go.RowKit

/-- the tokens of a text, as layer 2 takes them -/
def toksOf (l : List UInt8) : Int × Int × List Rd.Tk := ((tokensG l).1, (tokensG l).2.1, (tokensG l).2.2.map tkOf)
/-- the fault's number, its byte, the grammar -/
def ofS (l : List UInt8) : Int × Int × Gr.Gm := Gr.ofG (toksOf l) l.length

theorem toksOf_cases (l : List UInt8) : (∃ us, Lx.tokens l = .ok us ∧ l.length ≤ 2000 ∧ toksOf l = (0, 0, us.map tkOf)) ∨ (∃ n a : Int, (n = 11 ∨ n = 14) ∧ 0 ≤ a ∧ toksOf l = (n, a, []) ∧ tokensG l = (n, a, [])) := by
  unfold toksOf tokensG
  by_cases h : 2000 < l.length
  · rw [if_pos h]; exact .inr ⟨14, 0, .inr rfl, Int.le_refl _, rfl, rfl⟩
  · rw [if_neg h]
    cases ht : Lx.tokens l with
    | ok us => exact .inl ⟨us, rfl, by omega, rfl⟩
    | error p => exact .inr ⟨11, p, .inl rfl, by omega, rfl, rfl⟩

theorem good_size {k : Nat} {x : List UInt8} (h : Lx.Good k x) : x.length ≤ 16 := by
  rcases h with ⟨_, h⟩ | ⟨_, h⟩ | ⟨_, rfl⟩ | ⟨_, rfl⟩ | ⟨_, rfl⟩
  · simp [Lx.isName] at h; omega
  · simp [Lx.isTerm] at h; omega
  · simp
  · simp
  · simp

theorem tkOf_small {us : List Lx.Tok} {l : List UInt8} (h : Lx.tokens l = .ok us) : ∀ t ∈ us.map tkOf, t.text.size ≤ 16 := by
  intro t ht
  obtain ⟨u, hu, rfl⟩ := List.mem_map.1 ht
  have := good_size (Lx.tokens_good h u hu)
  simpa [tkOf, ByteArray.size] using this

/-- what a grammar, or an error, is told as -/
def outG : Except Rd.Er Gr.Gm → Int × Int × Gr.Gm
  | .ok g => (0, 0, g)
  | .error er => (er.1, er.2, ⟨[], [], []⟩)

/-- what altsOf comes to -/
def AOPost (l : List UInt8) (w : World) (e : Ending) (w' : World) : Prop :=
  Below w.heap.size w w' ∧ ((∃ er : Rd.Er, ofS l = (er.1, er.2, ⟨[], [], []⟩) ∧ e = thrown er) ∨
    (∃ xs xo xc, ofS l = outG (Gr.of xs) ∧ xs.length ≤ 60 ∧ (∀ x ∈ xs, x.2.length ≤ 8) ∧ (∀ x ∈ xs, x.1.text.size ≤ maxLen ∧ ∀ t ∈ x.2, t.text.size ≤ maxLen) ∧
      e = .returned (.slice xo xs.length xc) ∧ AlsAt w.heap.size w' (.slice xo xs.length xc) xs))

set_option maxHeartbeats 1600000 in
theorem altsOf_any (s : ByteArray) (w : World) (hs : s.size ≤ maxLen) : Calls Try.prog 52 #[.string s] w (AOPost s.data.toList w) := by
  have hs' : s.size ≤ 9223372036854775807 := hs
  have HLn : Hid (s.data.toList.length = s.size) := by show _ = _; simp
  rcases toksOf_cases s.data.toList with ⟨us, ht, hl, hE⟩ | ⟨n, a, hn, ha, hE, hG⟩
  · have HG : Hid (tokensG s.data.toList = (0, 0, us)) := by show _ = _; unfold tokensG; rw [if_neg (by omega), ht]
    have hlen : (us.map tkOf).length ≤ 2000 := by rw [List.length_map]; have := Lx.tokens_count ht; omega
    have HX : Hid (∀ t ∈ us.map tkOf, t.text.size ≤ 281474976710656) := fun t h => by have := tkOf_small ht t h; omega
    have HX2 : Hid (∀ t ∈ us.map tkOf, t.text.size ≤ maxLen) := fun t h => by have := tkOf_small ht t h; unfold maxLen; omega
    have HTS : Hid (us.map tkOf = us.map tkOf) := rfl
    have hpos : ∀ (W : World), _ := fun W => rtokens_is s 0 0 us (us.map tkOf) W hs HG rfl
    have HTK : Hid _ := hpos
    clear hpos
    rcases Rd.altsG_cases (us.map tkOf) s.size with ⟨xs, h1, h2, h3, h4⟩ | ⟨⟨en, ea⟩, h1, h2, h3⟩
    · have HE : Hid (ofS s.data.toList = outG (Gr.of xs)) := by
        show _ = _; unfold ofS Gr.ofG; rw [hE, HLn.out]; simp only [h2]; cases Gr.of xs <;> rfl
      have HA : Hid (Rd.altsG (us.map tkOf) s.size = (0, 0, xs)) := h2
      have hsm := Rd.altsG_small h2
      have H8 : Hid _ := hsm.2
      have HT : Hid (∀ x ∈ xs, x.1.text.size ≤ maxLen ∧ ∀ t ∈ x.2, t.text.size ≤ maxLen) := fun x hx => by
        have := Rd.alts_mem (fun t => t.text.size ≤ maxLen) h3 HX2.out x hx
        exact ⟨this.1.2, fun t ht => (this.2 t ht).2⟩
      have hs6 := hsm.1
      clear hsm h1 h2 h3 h4 hE hl ht HX2 HTS
      generalize us.map tkOf = ts at *
      go_enter Try.func52, Try.ntmps52
      go_wp2_with fail
      refine (HTK.out _).mono ?_
      rintro e w1 ⟨ao, c, rfl, hb1, ht1, hc1⟩
      go_wp2_with fail
      refine (throwOn_ok 0 _).mono ?_
      rintro e w2 ⟨rfl, hb2⟩
      have f0 : w2.frozen? ⟨w1.heap.size, 0, none⟩ = false := (hb2.frozen (by simp)).trans (by simp [go_sem])
      have f1 : w2.frozen? ⟨w1.heap.size, 1, none⟩ = false := (hb2.frozen (by simp)).trans (by simp [go_sem])
      have c0 : w2.cell? ⟨w1.heap.size, 0, none⟩ = some (.int .i64 0) := (hb2.cell (by simp)).trans (by simp [go_sem])
      have c1 : w2.cell? ⟨w1.heap.size, 1, none⟩ = some (.int .i64 0) := (hb2.cell (by simp)).trans (by simp [go_sem])
      have hz2 : w1.heap.size < w2.heap.size := by have := hb2.size; simp at this; omega
      have hb12 : Hid (Below w1.heap.size w1 w2) := ((Below.refl _ w1).alloc (Nat.le_refl _) _).trans (hb2.mono (by simp))
      clear hb2
      go_wp2_with fail
      refine (alts_is ao c ts s.size 0 0 xs _ hlen HX.out hc1.out (ht1.out.later hb12.out).size HA).mono ?_
      rintro e w3 ⟨xo, xc, rfl, hb3, ha3⟩
      have hz3 : w1.heap.size < w3.heap.size := Nat.lt_of_lt_of_le hz2 hb3.out.size
      replace f0 : w3.frozen? ⟨w1.heap.size, 0, none⟩ = false := (hb3.out.frozen hz2).trans f0
      replace f1 : w3.frozen? ⟨w1.heap.size, 1, none⟩ = false := (hb3.out.frozen hz2).trans f1
      replace c0 := cell_later hb3.out c0
      replace c1 := cell_later hb3.out c1
      have hb13 : Hid (Below w1.heap.size w1 w3) := hb12.out.trans (hb3.out.mono (Nat.le_of_lt hz2))
      have hbs : Hid (Below w1.heap.size w1 ((w3.setCell ⟨w1.heap.size, 0, none⟩ (.int .i64 0)).setCell ⟨w1.heap.size, 1, none⟩ (.int .i64 0))) := (hb13.out.setCell (by exact Nat.le_refl _) _).setCell (by exact Nat.le_refl _) _
      have has : Hid (AlsAt w2.heap.size ((w3.setCell ⟨w1.heap.size, 0, none⟩ (.int .i64 0)).setCell ⟨w1.heap.size, 1, none⟩ (.int .i64 0)) (.slice xo xs.length xc) xs) := (ha3.out.setCell (by exact hz2) _).setCell (by exact hz2) _
      clear ha3 hb3 hb12 hb13
      go_wp2_with fail
      refine (throwOn_ok 0 _).mono ?_
      rintro e w4 ⟨rfl, hb4⟩
      go_wp2_with fail
      go_ret
      have hfin : Below w.heap.size w w4 := (hb1.out.trans (hbs.out.mono hb1.out.size)).trans (hb4.mono (by have := hb1.out.size; have := hbs.out.size; omega))
      exact ⟨hfin, .inr ⟨xs, xo, xc, HE.out, hs6, H8.out, HT.out, rfl, (has.out.below hb4).from (by have := hb1.out.size; omega)⟩⟩
    · have HE : Hid (ofS s.data.toList = (en, ea, ⟨[], [], []⟩)) := by
        show _ = _; unfold ofS Gr.ofG; rw [hE, HLn.out]
        simp only at h2 h3
        have : en ≠ 0 := by omega
        simp [h2, this]
      have HA : Hid (Rd.altsG (us.map tkOf) s.size = (en, ea, [])) := h2
      have hen : en ≠ 0 := by simp only at h3; omega
      clear h1 h2 h3 hE hl ht HX2 HTS
      generalize us.map tkOf = ts at *
      go_enter Try.func52, Try.ntmps52
      go_wp2_with fail
      refine (HTK.out _).mono ?_
      rintro e w1 ⟨ao, c, rfl, hb1, ht1, hc1⟩
      go_wp2_with fail
      refine (throwOn_ok 0 _).mono ?_
      rintro e w2 ⟨rfl, hb2⟩
      have f0 : w2.frozen? ⟨w1.heap.size, 0, none⟩ = false := (hb2.frozen (by simp)).trans (by simp [go_sem])
      have f1 : w2.frozen? ⟨w1.heap.size, 1, none⟩ = false := (hb2.frozen (by simp)).trans (by simp [go_sem])
      have c0 : w2.cell? ⟨w1.heap.size, 0, none⟩ = some (.int .i64 0) := (hb2.cell (by simp)).trans (by simp [go_sem])
      have c1 : w2.cell? ⟨w1.heap.size, 1, none⟩ = some (.int .i64 0) := (hb2.cell (by simp)).trans (by simp [go_sem])
      have hz2 : w1.heap.size < w2.heap.size := by have := hb2.size; simp at this; omega
      have hb12 : Hid (Below w1.heap.size w1 w2) := ((Below.refl _ w1).alloc (Nat.le_refl _) _).trans (hb2.mono (by simp))
      clear hb2
      go_wp2_with fail
      refine (alts_is ao c ts s.size en ea [] _ hlen HX.out hc1.out (ht1.out.later hb12.out).size HA).mono ?_
      rintro e w3 ⟨xo, xc, rfl, hb3, ha3⟩
      have hz3 : w1.heap.size < w3.heap.size := Nat.lt_of_lt_of_le hz2 hb3.out.size
      replace f0 : w3.frozen? ⟨w1.heap.size, 0, none⟩ = false := (hb3.out.frozen hz2).trans f0
      replace f1 : w3.frozen? ⟨w1.heap.size, 1, none⟩ = false := (hb3.out.frozen hz2).trans f1
      replace c0 := cell_later hb3.out c0
      replace c1 := cell_later hb3.out c1
      have hb13 : Hid (Below w1.heap.size w1 w3) := hb12.out.trans (hb3.out.mono (Nat.le_of_lt hz2))
      have hbs : Hid (Below w1.heap.size w1 ((w3.setCell ⟨w1.heap.size, 0, none⟩ (.int .i64 en)).setCell ⟨w1.heap.size, 1, none⟩ (.int .i64 ea))) := (hb13.out.setCell (by exact Nat.le_refl _) _).setCell (by exact Nat.le_refl _) _
      clear ha3 hb3 hb12 hb13
      go_wp2_with fail
      refine (throwOn_err en ea hen _).mono ?_
      rintro e w4 ⟨rfl, hb4⟩
      have hfin : Hid (Below w.heap.size w w4) := (hb1.out.trans (hbs.out.mono hb1.out.size)).trans (hb4.mono (by have := hb1.out.size; have := hbs.out.size; omega))
      unfold thrown
      go_wp2_with fail
      exact ⟨rfl, hfin.out, .inl ⟨(en, ea), HE.out, rfl⟩⟩
  · have HE : Hid (ofS s.data.toList = (n, a, ⟨[], [], []⟩)) := by
      have : n ≠ 0 := by omega
      show _ = _; unfold ofS Gr.ofG; rw [hE]; simp [this]
    have hne : n ≠ 0 := by omega
    have HG : Hid (tokensG s.data.toList = (n, a, [])) := hG
    clear hE hn ha hG
    go_enter Try.func52, Try.ntmps52
    go_wp2_with fail
    refine (rtokens_is s n a [] [] _ hs HG rfl).mono ?_
    rintro e w1 ⟨ao, c, rfl, hb1, ht1, hc1⟩
    go_wp2_with fail
    refine (throwOn_err n a hne _).mono ?_
    rintro e w4 ⟨rfl, hb4⟩
    have hfin : Hid (Below w.heap.size w w4) := (hb1.out.alloc hb1.out.size _).trans (hb4.mono (by have := hb1.out.size; simp; omega))
    unfold thrown
    go_wp2_with fail
    exact ⟨rfl, hfin.out, .inl ⟨(n, a), HE.out, rfl⟩⟩

theorem gassert_fault (x : Value) (w : World) : (Instr.typeAssert (.iface 56 x) 20 56 true).run Try.prog w = .ok (.tuple #[x, .bool true]) w := by kernel_rfl

set_option maxHeartbeats 400000 in
theorem gfaultOf_any (a b : Int) (w : World) :
    Calls Try.prog 50 #[.iface 56 (.agg #[.int .i64 a, .int .i64 b])] w fun e w' => e = .returned (.agg #[.int .i64 a, .int .i64 b]) ∧ Below w.heap.size w w' := by
  have hta := gassert_fault (.agg #[.int .i64 a, .int .i64 b])
  go_enter Try.func50, Try.ntmps50
  go_wp2
  refine bodyPost_ret (v := .agg #[.int .i64 a, .int .i64 b]) (by simp [results, Try.results50, go_sem]) rfl ⟨rfl, ?_⟩
  exact ((Below.refl _ w).alloc (Nat.le_refl _) _).alloc (by simp) _

set_option maxHeartbeats 800000 in
theorem gcatch_panicking (B : Nat) (v0 v1 v2 u1 u2 : Value) (a b : Int) (older : List PanicEntry) (w : World)
    (h0 : w.cell? ⟨B, 0, none⟩ = some v0) (z0 : w.frozen? ⟨B, 0, none⟩ = false) (h1 : w.cell? ⟨B, 1, none⟩ = some v1) (z1 : w.frozen? ⟨B, 1, none⟩ = false) (h2 : w.cell? ⟨B, 2, none⟩ = some v2) (z2 : w.frozen? ⟨B, 2, none⟩ = false)
    (hC : w.cell? ⟨B + 1, 0, none⟩ = some u1) (hCz : w.frozen? ⟨B + 1, 0, none⟩ = false) (hD : w.cell? ⟨B + 1, 1, none⟩ = some u2) (hDz : w.frozen? ⟨B + 1, 1, none⟩ = false) :
    CallsD Try.prog 49 #[.pointer (some ⟨B, 0, none⟩), .pointer (some ⟨B + 1, 0, none⟩)] (.panicking ({ v := .iface 56 (.agg #[.int .i64 a, .int .i64 b]), recovered := false } :: older)) w fun e u' w' =>
      e = .returned (.tuple #[]) ∧ u' = .panicking ({ v := .iface 56 (.agg #[.int .i64 a, .int .i64 b]), recovered := true } :: older) ∧
      ∃ w1, Below w.heap.size w w1 ∧ w' = ((((w1.setCell ⟨B, 0, none⟩ (.slice none 0 0)).setCell ⟨B, 1, none⟩ (.slice none 0 0)).setCell ⟨B, 2, none⟩ (.slice none 0 0)).setCell ⟨B + 1, 0, none⟩ (.int .i64 a)).setCell ⟨B + 1, 1, none⟩ (.int .i64 b) := by
  refine callsD_of_wpS Try.func49 rfl fun c₀ cs hu => ?_
  apply wpS_seq
  apply wpS_region
  simp [wpOpsS, go_sem, recoverD, hu, Try.ntmps49, Exit.thenS]
  apply wpS_seq
  apply wpS_region
  simp [wpOpsS, go_sem, Exit.thenS]
  refine wpS_cond (t := true) (by simp [Act.eval, Array.replicate]) ?_
  simp only [if_true]
  refine wpS_of_wp ?_
  have ht : (#[Value.pointer (some ⟨B, 0, none⟩), Value.pointer (some ⟨B + 1, 0, none⟩)] ++
          ((((Array.replicate 7 undef).setIfInBounds 1 (Value.iface 56 (Value.agg #[Value.int IntKind.i64 a, Value.int IntKind.i64 b]))).setIfInBounds
                    0 (Value.iface 56 (Value.agg #[Value.int IntKind.i64 a, Value.int IntKind.i64 b]))).setIfInBounds
                2 (Value.iface 56 (Value.agg #[Value.int IntKind.i64 a, Value.int IntKind.i64 b]))).setIfInBounds
            3 (Value.bool true)) = #[Value.pointer (some ⟨B, 0, none⟩), Value.pointer (some ⟨B + 1, 0, none⟩), .iface 56 (.agg #[.int .i64 a, .int .i64 b]), .iface 56 (.agg #[.int .i64 a, .int .i64 b]), .iface 56 (.agg #[.int .i64 a, .int .i64 b]), .bool true, undef, undef, undef] := rfl
  rw [ht]
  clear ht hu
  go_wp2_with fail
  refine (gfaultOf_any a b _).mono ?_
  rintro e w1 ⟨rfl, hb⟩
  have c0 := cell_later hb h0
  have c1 := cell_later hb h1
  have c2 := cell_later hb h2
  have c3 := cell_later hb hC
  have c4 := cell_later hb hD
  have f0 : w1.frozen? ⟨B, 0, none⟩ = false := (hb.frozen (World.block_lt_of_cell? _ _ h0)).trans z0
  have f1 : w1.frozen? ⟨B, 1, none⟩ = false := (hb.frozen (World.block_lt_of_cell? _ _ h1)).trans z1
  have f2 : w1.frozen? ⟨B, 2, none⟩ = false := (hb.frozen (World.block_lt_of_cell? _ _ h2)).trans z2
  have f3 : w1.frozen? ⟨B + 1, 0, none⟩ = false := (hb.frozen (World.block_lt_of_cell? _ _ hC)).trans hCz
  have f4 : w1.frozen? ⟨B + 1, 1, none⟩ = false := (hb.frozen (World.block_lt_of_cell? _ _ hD)).trans hDz
  clear h0 h1 h2 z0 z1 z2 hC hD hCz hDz
  go_wp2
  simp [bodyPostS, results, Try.results49]
  exact ⟨w1, hb, rfl⟩

set_option maxHeartbeats 800000 in
theorem gcatch_idle (p q : Addr) (w : World) :
    CallsD Try.prog 49 #[.pointer (some p), .pointer (some q)] .returning w fun e u' w' => e = .returned (.tuple #[]) ∧ u' = .returning ∧ w' = w := by
  refine callsD_of_wpS Try.func49 rfl fun c₀ cs hu => ?_
  apply wpS_seq
  apply wpS_region
  simp [wpOpsS, go_sem, recoverD, hu, Try.ntmps49, Exit.thenS]
  apply wpS_seq
  apply wpS_region
  simp [wpOpsS, go_sem, Exit.thenS]
  refine wpS_cond (t := false) (by simp [Act.eval, Array.replicate]) ?_
  simp only [Bool.false_eq_true, if_false]
  refine wpS_of_wp (wp_skip ?_)
  cases c₀
  simp_all [bodyPostS, results, Try.results49]

/-- what Of comes to -/
def OfPost (l : List UInt8) (w : World) (e : Ending) (w' : World) : Prop :=
  Below w.heap.size w w' ∧ ∃ A, e = .returned (.tuple #[.agg (gmCells (ofS l).2.2 A), .agg #[.int .i64 (ofS l).1, .int .i64 (ofS l).2.1]]) ∧ GmOwn w.heap.size w' (ofS l).2.2 A

set_option maxHeartbeats 3200000 in
theorem of_any (s : ByteArray) (w : World) (hs : s.size ≤ maxLen) : Calls Try.prog 34 #[.string s] w (OfPost s.data.toList w) := by
  have hmf : ∀ (fn : Fn) (first cap : Array Value) (w : World), (Instr.makeFunc fn first cap).run Try.prog w = .ok (.func fn first cap) w := fun _ _ _ _ => rfl
  have GT : Hid (∀ (er : Rd.Er) (w' : World), ofS s.data.toList = (er.1, er.2, ⟨[], [], []⟩) → Below w.heap.size w w' → OfPost s.data.toList w (.returned (.tuple #[.agg #[.slice none 0 0, .slice none 0 0, .slice none 0 0], .agg #[.int .i64 er.1, .int .i64 er.2]])) w') := fun er w' he hb => by
    refine ⟨hb, ⟨none, 0, none, 0, none, 0⟩, ?_, ?_⟩
    · rw [he]; rfl
    · rw [he]; exact GmOwn.none _ _
  go_enter_defers Try.func34, Try.ntmps34
  go_wp2_with fail
  refine (altsOf_any s _ hs).mono ?_
  rintro e w1 ⟨hb, hcase⟩
  have hb0 : Hid (Below w.heap.size w w1) := (((Below.refl _ w).alloc (Nat.le_refl _) _).alloc (by simp) _).trans (hb.mono (by simp; omega))
  have hz : w.heap.size + 1 < w1.heap.size := by have := hb.size; simp at this; omega
  have hz0 : w.heap.size < w1.heap.size := by omega
  have c0 : w1.cell? ⟨w.heap.size, 0, none⟩ = some (.slice none 0 0) := (hb.cell (by simp; omega)).trans (by simp [go_sem])
  have c1 : w1.cell? ⟨w.heap.size, 1, none⟩ = some (.slice none 0 0) := (hb.cell (by simp; omega)).trans (by simp [go_sem])
  have c2 : w1.cell? ⟨w.heap.size, 2, none⟩ = some (.slice none 0 0) := (hb.cell (by simp; omega)).trans (by simp [go_sem])
  have c3 : w1.cell? ⟨w.heap.size + 1, 0, none⟩ = some (.int .i64 0) := (hb.cell (by simp)).trans (by simp [go_sem])
  have c4 : w1.cell? ⟨w.heap.size + 1, 1, none⟩ = some (.int .i64 0) := (hb.cell (by simp)).trans (by simp [go_sem])
  have f0 : w1.frozen? ⟨w.heap.size, 0, none⟩ = false := (hb.frozen (by simp; omega)).trans (by simp [go_sem])
  have f1 : w1.frozen? ⟨w.heap.size, 1, none⟩ = false := (hb.frozen (by simp; omega)).trans (by simp [go_sem])
  have f2 : w1.frozen? ⟨w.heap.size, 2, none⟩ = false := (hb.frozen (by simp; omega)).trans (by simp [go_sem])
  have f3 : w1.frozen? ⟨w.heap.size + 1, 0, none⟩ = false := (hb.frozen (by simp)).trans (by simp [go_sem])
  have f4 : w1.frozen? ⟨w.heap.size + 1, 1, none⟩ = false := (hb.frozen (by simp)).trans (by simp [go_sem])
  rcases hcase with ⟨⟨n, a⟩, HE, rfl⟩ | ⟨xs, xo, xc, HE, h60, h8, hx, rfl, hals⟩
  · have HE' : Hid _ := HE
    clear HE hb
    unfold thrown
    go_wp2_with fail
    refine leaves_cons (f := 49) (args := #[.pointer (some ⟨w.heap.size, 0, none⟩), .pointer (some ⟨w.heap.size + 1, 0, none⟩)]) (by simp) (by simp [go_sem]) ?_
    refine (gcatch_panicking w.heap.size _ _ _ _ _ n a [] _ c0 f0 c1 f1 c2 f2 c3 f3 c4 f4).mono ?_
    rintro e u' w'' ⟨rfl, rfl, w2, hb2, rfl⟩
    have hb3 : Below w.heap.size w w2 := hb0.out.trans (hb2.mono (by omega))
    have P := GT.out (n, a) (((((w2.setCell ⟨w.heap.size, 0, none⟩ (.slice none 0 0)).setCell ⟨w.heap.size, 1, none⟩ (.slice none 0 0)).setCell ⟨w.heap.size, 2, none⟩ (.slice none 0 0)).setCell ⟨w.heap.size + 1, 0, none⟩ (.int .i64 n)).setCell ⟨w.heap.size + 1, 1, none⟩ (.int .i64 a)) HE'.out
      (((((hb3.setCell (by exact Nat.le_refl _) _).setCell (by exact Nat.le_refl _) _).setCell (by exact Nat.le_refl _) _).setCell (by exact Nat.le_succ _) _).setCell (by exact Nat.le_succ _) _)
    have d0 := cell_later hb2 c0
    have d1 := cell_later hb2 c1
    have d2 := cell_later hb2 c2
    have d3 := cell_later hb2 c3
    have d4 := cell_later hb2 c4
    simp [Leaves, settle, results, Try.results34, go_sem, d0, d1, d2, d3, d4]
    exact P
  · have HE' : Hid _ := HE
    have H8 : Hid _ := h8
    have HX : Hid _ := hx
    have HA : Hid (AlsAt ((w.alloc (Obj.cells #[Value.slice none 0 0, Value.slice none 0 0, Value.slice none 0 0] 25)).alloc (Obj.cells #[Value.int IntKind.i64 0, Value.int IntKind.i64 0] 56)).heap.size w1 (.slice xo xs.length xc) xs) := hals
    clear HE hb h8 hx hals
    go_wp2_with fail
    refine (grammarOf_any xs h60 H8.out HX.out xo xc _ w1 HA.out).mono ?_
    rintro e w2 ⟨hb2, hcase⟩
    have hbw2 : Hid (Below w.heap.size w w2) := hb0.out.trans (hb2.mono hb0.out.size)
    have hz2 : w.heap.size + 1 < w2.heap.size := Nat.lt_of_lt_of_le hz hb2.size
    replace c0 := cell_later hb2 c0
    replace c1 := cell_later hb2 c1
    replace c2 := cell_later hb2 c2
    replace c3 := cell_later hb2 c3
    replace c4 := cell_later hb2 c4
    replace f0 : w2.frozen? ⟨w.heap.size, 0, none⟩ = false := (hb2.frozen hz0).trans f0
    replace f1 : w2.frozen? ⟨w.heap.size, 1, none⟩ = false := (hb2.frozen hz0).trans f1
    replace f2 : w2.frozen? ⟨w.heap.size, 2, none⟩ = false := (hb2.frozen hz0).trans f2
    replace f3 : w2.frozen? ⟨w.heap.size + 1, 0, none⟩ = false := (hb2.frozen hz).trans f3
    replace f4 : w2.frozen? ⟨w.heap.size + 1, 1, none⟩ = false := (hb2.frozen hz).trans f4
    rcases hcase with ⟨⟨n, a⟩, hG, rfl⟩ | ⟨g, A, hG, rfl, hgm⟩
    · have HE2 : Hid (ofS s.data.toList = (n, a, ⟨[], [], []⟩)) := by show _ = _; rw [HE'.out, hG]; rfl
      clear HE' hG hb2 HA
      unfold thrown
      go_wp2_with fail
      refine leaves_cons (f := 49) (args := #[.pointer (some ⟨w.heap.size, 0, none⟩), .pointer (some ⟨w.heap.size + 1, 0, none⟩)]) (by simp) (by simp [go_sem]) ?_
      refine (gcatch_panicking w.heap.size _ _ _ _ _ n a [] _ c0 f0 c1 f1 c2 f2 c3 f3 c4 f4).mono ?_
      rintro e u' w'' ⟨rfl, rfl, w3, hb3, rfl⟩
      have hb4 : Below w.heap.size w w3 := hbw2.out.trans (hb3.mono (by omega))
      have P := GT.out (n, a) (((((w3.setCell ⟨w.heap.size, 0, none⟩ (.slice none 0 0)).setCell ⟨w.heap.size, 1, none⟩ (.slice none 0 0)).setCell ⟨w.heap.size, 2, none⟩ (.slice none 0 0)).setCell ⟨w.heap.size + 1, 0, none⟩ (.int .i64 n)).setCell ⟨w.heap.size + 1, 1, none⟩ (.int .i64 a)) HE2.out
        (((((hb4.setCell (by exact Nat.le_refl _) _).setCell (by exact Nat.le_refl _) _).setCell (by exact Nat.le_refl _) _).setCell (by exact Nat.le_succ _) _).setCell (by exact Nat.le_succ _) _)
      have d0 := cell_later hb3 c0
      have d1 := cell_later hb3 c1
      have d2 := cell_later hb3 c2
      have d3 := cell_later hb3 c3
      have d4 := cell_later hb3 c4
      simp [Leaves, settle, results, Try.results34, go_sem, d0, d1, d2, d3, d4]
      exact P
    · have HE2 : Hid (ofS s.data.toList = (0, 0, g)) := by show _ = _; rw [HE'.out, hG]; rfl
      have HO : Hid (GmOwn w1.heap.size w2 g A) := hgm
      clear HE' hG hb2 HA hgm
      unfold gmCells
      go_wp2_with fail
      refine leaves_cons (f := 49) (args := #[.pointer (some ⟨w.heap.size, 0, none⟩), .pointer (some ⟨w.heap.size + 1, 0, none⟩)]) (by simp) (by simp [go_sem]) ?_
      refine (gcatch_idle ⟨w.heap.size, 0, none⟩ ⟨w.heap.size + 1, 0, none⟩ _).mono ?_
      rintro e u' w'' ⟨rfl, rfl, rfl⟩
      have P : OfPost s.data.toList w (.returned (.tuple #[.agg #[.slice A.ta g.terms.length A.tc, .slice A.na g.names.length A.nc, .slice A.ra g.rules.length A.rc], .agg #[.int .i64 0, .int .i64 0]])) (((((w2.setCell ⟨w.heap.size, 0, none⟩ (.slice A.ta g.terms.length A.tc)).setCell ⟨w.heap.size, 1, none⟩ (.slice A.na g.names.length A.nc)).setCell ⟨w.heap.size, 2, none⟩ (.slice A.ra g.rules.length A.rc)).setCell ⟨w.heap.size + 1, 0, none⟩ (.int .i64 0)).setCell ⟨w.heap.size + 1, 1, none⟩ (.int .i64 0)) := by
        refine ⟨((((hbw2.out.setCell (by exact Nat.le_refl _) _).setCell (by exact Nat.le_refl _) _).setCell (by exact Nat.le_refl _) _).setCell (by exact Nat.le_succ _) _).setCell (by exact Nat.le_succ _) _, A, ?_, ?_⟩
        · rw [HE2.out]; rfl
        · rw [HE2.out]
          exact (((((HO.out.setCell (by exact hz0) _).setCell (by exact hz0) _).setCell (by exact hz0) _).setCell (by exact hz) _).setCell (by exact hz) _).from (Nat.le_of_lt hz0)
      simp [Leaves, settle, results, Try.results34, go_sem, c0, c1, c2, c3, c4]
      exact P

/-- Of where what it comes to is known -/
theorem of_is (s : ByteArray) (E At : Int) (g : Gr.Gm) (w : World) (hs : s.size ≤ maxLen) (HG : Hid (ofS s.data.toList = (E, At, g))) :
    Calls Try.prog 34 #[.string s] w fun e w' => ∃ A, e = .returned (.tuple #[.agg (gmCells g A), .agg #[.int .i64 E, .int .i64 At]]) ∧ Hid (Below w.heap.size w w') ∧ Hid (GmOwn w.heap.size w' g A) := by
  refine (of_any s w hs).mono ?_
  rintro e w1 ⟨hb, A, rfl, hown⟩
  rw [HG.out] at hown ⊢
  exact ⟨A, rfl, hb, hown⟩
end Go.Proofs.Ytdocbgfpnaiijaa
