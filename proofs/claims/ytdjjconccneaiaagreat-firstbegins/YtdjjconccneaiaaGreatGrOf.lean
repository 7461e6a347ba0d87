/-
  Layer 3 (grammar): grammarOf: the grammar of alternatives, or the fault that is thrown.
-/
import Derived.Test.YtdjjconccneaiaaGreatGrRules
import Derived.Test.YtdjjconccneaiaaGreatGrAlike
namespace Go.Proofs.YtdjjconccneaiaaGreat
open Go.RowKit

theorem Tryz.infoRl : (Tryz.prog.info? 45).map (fun i => (i.zero, i.size, i.bytes)) = some (some (.agg #[.int .i64 0, .slice none 0 0]), 2, 32) := by kernel_rfl

/-- append of a rule onto a row of rules -/
theorem wpList_append_rl {ops : Array Oper} {rest : List Oper} {o : Oper} {a : Act} {Q : Exit → Act → World → Prop} {w : World} (hw : Region.wanted o (yielded ops a.tmps) = true) (s x : Operand)
    (ho : o.op = .call { callee := .builtin .append, args := #[s, x], argTypes := #[23, 23] }) (base : Nat) (v : Value) (rs : List Gr.Rl) (hs : a.eval s = v) (hown : OwnRls base w v rs)
    (b c : Nat) (r : Gr.Rl) (ro : Option Addr) (rc : Nat) (hx : a.eval x = .slice (some ⟨b, 0, none⟩) 1 c) (hc0 : w.cell? ⟨b, 0, none⟩ = some (.int .i64 r.1)) (hc1 : w.cell? ⟨b, 1, none⟩ = some (.slice ro r.2.length rc))
    (hr : OwnInts base w (.slice ro r.2.length rc) r.2) (hb : rs.length + 1 ≤ 2000) (hbase : base ≤ w.heap.size)
    (h : ∀ g cap w', OwnRls base w' (.slice (some ⟨g, 0, none⟩) (rs.length + 1) cap) (rs ++ [r]) → w.grownBy w' v.ownBlock → wpList Tryz.prog ops Q rest (a.put o.dst (.slice (some ⟨g, 0, none⟩) (rs.length + 1) cap)) w') : wpList Tryz.prog ops Q (o :: rest) a w := by
  obtain ⟨iA, hi, hz0, hz1, hz2⟩ := info_parts Tryz.infoRl
  obtain ⟨ps, h1, h2, h3⟩ := hown
  have hpl : ps.length = rs.length := by rw [← h1, List.length_map]
  refine wpList_wanted hw fun K hK => wp_append_lies _ s x 23 ho base 45 iA _ 2 32 Tryz.underlying23 hi hz0 hz1 hz2 rfl (by decide) v ps.length _ hs h2 ⟨b, 0, none⟩ 1 c (rlCells (r, .slice ro r.2.length rc)) hx rfl ?_ (by simp [rlCells, Value.oneCell']) (by decide) (by unfold maxLen; omega) (by omega) hbase _ rfl
    (fun g cap w' h4 h5 _ _ => ?_)
  · intro j y hj
    match j with
    | 0 => simp [rlCells] at hj; subst hj; simpa [addr_zero_add] using hc0
    | 1 => simp [rlCells] at hj; subst hj; simpa [addr_zero_add] using hc1
    | j + 2 => simp [rlCells] at hj
  · have := OwnRls.push h1 h2 h3 (r, .slice ro r.2.length rc) hr h4 h5
    rw [hpl] at this ⊢
    exact hK _ _ (h g cap w' this h5)

/-- what holds of memory while grammarOf goes: all that there was ahead of its grammar's block X; that block; the rules -/
structure GInv (w2 wr : World) (tl nl : Nat) (A : GA) (ra : Option Addr) (rc : Nat) (rs : List Gr.Rl) : Prop where
  below : Below w2.heap.size w2 wr
  lt : w2.heap.size < wr.heap.size
  gb : wr.heap[w2.heap.size]? = some (.cells #[.slice A.ta tl A.tc, .slice A.na nl A.nc, .slice ra rs.length rc] 25 (0, 0))
  own : OwnRls (w2.heap.size + 1) wr (.slice ra rs.length rc) rs

theorem GInv.later {w2 wr w1 : World} {tl nl : Nat} {A : GA} {ra : Option Addr} {rc : Nat} {rs : List Gr.Rl} (h : GInv w2 wr tl nl A ra rc rs) (hb : Below wr.heap.size wr w1) : GInv w2 w1 tl nl A ra rc rs where
  below := h.below.trans (hb.mono h.below.size)
  lt := Nat.lt_of_lt_of_le h.lt hb.size
  gb := by rw [hb.block _ h.lt]; exact h.gb
  own := h.own.below hb

theorem OwnRls.lt {base : Nat} {w : World} {v : Value} {rs : List Gr.Rl} (h : OwnRls base w v rs) (k : Nat) (hk : v.ownBlock = some k) : base ≤ k := by
  obtain ⟨ps, _, h2, _⟩ := h
  exact (h2.lt k hk).1

theorem GInv.grown {w2 wr w1 : World} {tl nl : Nat} {A : GA} {ra : Option Addr} {rc : Nat} {rs : List Gr.Rl} (h : GInv w2 wr tl nl A ra rc rs) (hg : wr.grownBy w1 (Value.slice ra rs.length rc).ownBlock) :
    w1.heap[w2.heap.size]? = some (.cells #[.slice A.ta tl A.tc, .slice A.na nl A.nc, .slice ra rs.length rc] 25 (0, 0)) := by
  rw [hg.block _ h.lt (fun e => by have := h.own.lt _ e.symm; omega)]; exact h.gb

theorem GInv.push {w2 wr w1 : World} {tl nl : Nat} {A : GA} {ra : Option Addr} {rc : Nat} {rs rs' : List Gr.Rl} (h : GInv w2 wr tl nl A ra rc rs) {ra' : Option Addr} {rc' : Nat} (hg : wr.grownBy w1 (Value.slice ra rs.length rc).ownBlock)
    (ho : OwnRls (w2.heap.size + 1) w1 (.slice ra' rs'.length rc') rs') : GInv w2 (w1.setCell ⟨w2.heap.size, 2, none⟩ (.slice ra' rs'.length rc')) tl nl A ra' rc' rs' where
  below := (h.below.grown hg h.below.size (fun k hk => by have := h.own.lt k hk; omega)).setCell (by exact Nat.le_refl _) _
  lt := by rw [size_setCell]; exact Nat.lt_of_lt_of_le h.lt hg.size
  gb := by simp [World.setCell, Array.getElem?_modify, h.grown hg]
  own := ho.setCell (by exact Nat.lt_succ_self _) _

/-- a grammar in rows of one's own, from a block on -/
structure GmOwn (base : Nat) (w : World) (g : Gr.Gm) (A : GA) : Prop where
  terms : OwnStrs base w (.slice A.ta g.terms.length A.tc) g.terms
  names : OwnStrs base w (.slice A.na g.names.length A.nc) g.names
  rules : OwnRls base w (.slice A.ra g.rules.length A.rc) g.rules
  ttext : ∀ s ∈ g.terms, s.size ≤ maxLen
  ntext : ∀ s ∈ g.names, s.size ≤ maxLen

theorem GmOwn.at {base : Nat} {w : World} {g : Gr.Gm} {A : GA} (h : GmOwn base w g A) : GmAt w.heap.size w g A := by
  obtain ⟨_, _, hv, j1, j2, j3, _⟩ := OwnStrs.read h.terms
  cases hv
  obtain ⟨_, _, hv, m1, m2, m3, _⟩ := OwnStrs.read h.names
  cases hv
  obtain ⟨_, _, hv, n1, n2, n3, _⟩ := h.rules.read
  cases hv
  exact ⟨j1, m1, n1, ⟨j2, j3⟩, ⟨m2, m3⟩, ⟨n2, n3⟩, h.ttext, h.ntext⟩
theorem GmOwn.below {base : Nat} {w w' : World} {g : Gr.Gm} {A : GA} (h : GmOwn base w g A) (hb : Below w.heap.size w w') : GmOwn base w' g A :=
  ⟨ownsRow_below h.terms hb, ownsRow_below h.names hb, h.rules.below hb, h.ttext, h.ntext⟩
theorem GmOwn.from {base base' : Nat} {w : World} {g : Gr.Gm} {A : GA} (h : GmOwn base w g A) (hb : base' ≤ base) : GmOwn base' w g A :=
  ⟨ownsRow_from h.terms hb, ownsRow_from h.names hb, h.rules.from hb, h.ttext, h.ntext⟩
theorem GmOwn.setCell {base : Nat} {w : World} {g : Gr.Gm} {A : GA} (h : GmOwn base w g A) {a : Addr} (ha : a.block < base) (u : Value) : GmOwn base (w.setCell a u) g A :=
  ⟨ownsRow_setCell_below h.terms ha u, ownsRow_setCell_below h.names ha u, h.rules.setCell ha u, h.ttext, h.ntext⟩
theorem GmOwn.none (base : Nat) (w : World) : GmOwn base w ⟨[], [], []⟩ ⟨.none, 0, .none, 0, .none, 0⟩ :=
  ⟨World.ownsRow_nil _ _ _ _, World.ownsRow_nil _ _ _ _, OwnRls.nil _ _, fun s hs => by simp at hs, fun s hs => by simp at hs⟩

/-- what grammarOf comes to -/
def GofPost (xs : List Rd.Al) (w : World) (e : Ending) (w' : World) : Prop :=
  Below w.heap.size w w' ∧ ((∃ er, Gr.of xs = .error er ∧ e = thrown er) ∨ (∃ g A, Gr.of xs = .ok g ∧ e = .returned (.agg (gmCells g A)) ∧ GmOwn w.heap.size w' g A))

set_option maxRecDepth 100000 in
set_option maxHeartbeats 6400000 in
theorem grammarOf_any (xs : List Rd.Al) (hl : xs.length ≤ 60) (h8 : ∀ x ∈ xs, x.2.length ≤ 8) (hx : ∀ x ∈ xs, x.1.text.size ≤ maxLen ∧ ∀ t ∈ x.2, t.text.size ≤ maxLen) (ao : Option Addr) (c base : Nat) (w : World) (h : AlsAt base w (.slice ao xs.length c) xs) :
    Calls Tryz.prog 39 #[.slice ao xs.length c] w (GofPost xs w) := by
  have HA : Hid (AlsAt base w (.slice ao xs.length c) xs) := h
  have H8 : Hid _ := h8
  have HX : Hid _ := hx
  clear h h8 hx
  go_enter Tryz.func39, Tryz.ntmps39
  go_wp2_with fail
  have hba : Hid (Below w.heap.size w (w.alloc (Obj.cells #[Value.slice none 0 0, Value.slice none 0 0, Value.slice none 0 0] 25))) := (Below.refl _ w).alloc (Nat.le_refl _) _
  refine (quotesOf_any xs hl H8.out ao c base _ (HA.out.below hba.out)).mono ?_
  rintro e w1 ⟨to, tc, rfl, ho1, hb1⟩
  have hb1w : Hid (Below w.heap.size w w1) := hba.out.trans (hb1.mono hba.out.size)
  have hz1 : w.heap.size < w1.heap.size := by have := hb1.size; simp at this; omega
  have hr1 : w1.heap[w.heap.size]? = some (.cells #[.slice none 0 0, .slice none 0 0, .slice none 0 0] 25 (0, 0)) := by
    rw [hb1.block _ (by simp)]; exact heap_alloc_new w _
  go_wp2_with fail
  refine (leftSides_any xs hl ao c base _ (HA.out.below hb1w.out)).mono ?_
  rintro e w2 ⟨no, nc, rfl, ho2, hb2⟩
  have hbw : Hid (Below w.heap.size w w2) := hb1w.out.trans (hb2.mono hb1w.out.size)
  have hz2 : w.heap.size < w2.heap.size := Nat.lt_of_lt_of_le hz1 hb2.size
  have hr2 : w2.heap[w.heap.size]? = some (.cells #[.slice none 0 0, .slice none 0 0, .slice none 0 0] 25 (0, 0)) := by
    rw [hb2.block _ hz1]; exact hr1
  obtain ⟨_, _, hv1, hs1, hc1, hm1, _⟩ := OwnStrs.read (ownsRow_below ho1 hb2)
  obtain ⟨_, _, hv2, hs2, hc2, hm2, _⟩ := OwnStrs.read ho2
  cases hv1
  cases hv2
  have hnl := Gr.names_len xs xs.length
  have htl := Gr.terms_len xs H8.out xs.length
  rw [List.take_length] at hnl htl
  have HTM : Hid (∀ s ∈ Gr.terms xs, s.size ≤ maxLen) := fun s hs => by obtain ⟨a, ha, t, ht, _, rfl⟩ := Gr.terms_mem xs s hs; exact (HX.out a ha).2 t ht
  have HNM : Hid (∀ s ∈ Gr.names xs, s.size ≤ maxLen) := fun s hs => by obtain ⟨a, ha, rfl⟩ := Gr.names_mem xs s hs; exact (HX.out a ha).1
  have EU : Hid (∀ p, Gr.undef (Gr.names xs) xs = some p → Gr.of xs = .error (13, p)) := fun p hp => by unfold Gr.of; rw [hp]
  have EL : Hid (Gr.undef (Gr.names xs) xs = none → (40 < (Gr.names xs).length ∨ 40 < (Gr.terms xs).length) → Gr.of xs = .error (14, 0)) := fun hp hq => by unfold Gr.of; rw [hp]; simp only; rw [if_pos hq]
  have EO : Hid (Gr.undef (Gr.names xs) xs = none → ¬ (40 < (Gr.names xs).length ∨ 40 < (Gr.terms xs).length) → Gr.of xs = .ok ⟨Gr.terms xs, Gr.names xs, Gr.rules (Gr.terms xs) (Gr.names xs) xs⟩) := fun hp hq => by unfold Gr.of; rw [hp]; simp only; rw [if_neg hq]
  have RS : Hid (∀ k (h : k < xs.length), Gr.rules (Gr.terms xs) (Gr.names xs) (xs.take (k + 1)) = Gr.put (Gr.rules (Gr.terms xs) (Gr.names xs) (xs.take k)) (Gr.rule (Gr.terms xs) (Gr.names xs) xs[k])) := fun k h => Gr.rules_step _ _ xs k h
  generalize hns : Gr.names xs = ns at *
  generalize hts : Gr.terms xs = ts at *
  clear hns hts
  have HO1 : Hid (OwnStrs (w.heap.size + 1) w2 (.slice to ts.length tc) ts) := ownsRow_from (ownsRow_below ho1 hb2) (by simp)
  have HO2 : Hid (OwnStrs (w.heap.size + 1) w2 (.slice no ns.length nc) ns) := ownsRow_from ho2 hz1
  have HS1 : Hid (StrsAt w2.heap.size w2 to ts) := hs1
  have HS2 : Hid (StrsAt w2.heap.size w2 no ns) := hs2
  have hb3 : Hid (Below w2.heap.size w2 (w2.alloc (Obj.cells #[Value.slice to ts.length tc, Value.slice no ns.length nc, Value.slice none 0 0] 25))) := (Below.refl _ w2).alloc (Nat.le_refl _) _
  have hb3w : Hid (Below w.heap.size w (w2.alloc (Obj.cells #[Value.slice to ts.length tc, Value.slice no ns.length nc, Value.slice none 0 0] 25))) := hbw.out.trans (hb3.out.mono (Nat.le_of_lt hz2))
  have HG3 : Hid (GInv w2 (w2.alloc (Obj.cells #[Value.slice to ts.length tc, Value.slice no ns.length nc, Value.slice none 0 0] 25)) ts.length ns.length ⟨to, tc, no, nc, none, 0⟩ none 0 []) :=
    ⟨hb3.out, by simp, heap_alloc_new w2 _, OwnRls.nil _ _⟩
  clear ho1 ho2 hb1 hb2 hs1 hs2 hr1 hba hb1w
  go_wp2_with fail
  refine (throwUndefined_any xs hl H8.out ao c base no nc ns (by omega) _ (HA.out.below hb3w.out) (HS2.out.later hb3.out).size).mono ?_
  rintro e w4 ⟨hb4, hcase⟩
  have HG4 : Hid (GInv w2 w4 ts.length ns.length ⟨to, tc, no, nc, none, 0⟩ none 0 []) := HG3.out.later hb4
  have hb4w : Hid (Below w.heap.size w w4) := hb3w.out.trans (hb4.mono hb3w.out.size)
  clear HG3 hb3 hb3w hb4
  obtain ⟨g0, g1, g2, gz0, gz1, gz2⟩ := cells_three_z HG4.out.gb
  rcases hcase with ⟨hu, rfl⟩ | ⟨p, hu, rfl⟩
  · replace EL := EL.out hu
    replace EO := EO.out hu
    have EL' : Hid _ := EL
    have EO' : Hid _ := EO
    clear EU hu EL EO
    by_cases hbig : 40 < ns.length ∨ 40 < ts.length
    · have P : Hid (Gr.of xs = .error (14, 0)) := EL'.out hbig
      clear EL' EO'
      have G : Hid (GofPost xs w (thrown (14, 0)) w4) := ⟨hb4w.out, .inl ⟨_, P.out, rfl⟩⟩
      by_cases hn : 40 < ns.length
      · have hni : (40 : Int) < (ns.length : Int) := by omega
        clear hbig hn
        go_wp2_with (first | (go_at_call 64; refine (gthrow_any _ _ _).mono ?_; rintro e w5 ⟨rfl, rfl⟩; unfold thrown at *))
        exact ⟨rfl, G.out⟩
      · have hni : decide ((40 : Int) < (ns.length : Int)) = false := by simp; omega
        have hti : (40 : Int) < (ts.length : Int) := by omega
        clear hbig hn
        go_wp2_with (first | (go_at_call 64; refine (gthrow_any _ _ _).mono ?_; rintro e w5 ⟨rfl, rfl⟩; unfold thrown at *))
        exact ⟨rfl, G.out⟩
    · have P : Hid (Gr.of xs = .ok ⟨ts, ns, Gr.rules ts ns xs⟩) := EO'.out hbig
      clear EL' EO'
      have hni : decide ((40 : Int) < (ns.length : Int)) = false := by simp; omega
      have hti : decide ((40 : Int) < (ts.length : Int)) = false := by simp; omega
      have hn40 : ns.length ≤ 40 := by omega
      have ht40 : ts.length ≤ 40 := by omega
      clear hbig
      go_wp2_with fail
      clear hni hti g0 g1 g2 gz0 gz1 gz2
      go_loopw [29] (fun i wr => ∃ (q : Nat) (ra : Option Addr) (rc : Nat), q ≤ xs.length ∧ i = .int .i64 q ∧ Hid (GInv w2 wr ts.length ns.length ⟨to, tc, no, nc, none, 0⟩ ra rc (Gr.rules ts ns (xs.take q)))) (fun i _ => xs.length - (intOf i).toNat)
      case atStart => exact ⟨0, none, 0, Nat.zero_le _, rfl, HG4⟩
      case round =>
        obtain ⟨q, ra, rc, hq, rfl, hinv⟩ := hrel
        clear HG4 hb4w
        obtain ⟨g0, g1, g2, gz0, gz1, gz2⟩ := cells_three_z hinv.out.gb
        have hlt0 := hinv.out.lt
        have hbr : Hid (Below w.heap.size w wr) := hbw.out.trans (hinv.out.below.mono (Nat.le_of_lt hz2))
        have hrl := Gr.rules_len ts ns xs q
        by_cases hlt : q < xs.length
        · obtain ⟨g, ro, rrc, rfl, hg, a0, a1, a2, a3, at4⟩ := HA.out.right q hlt
          replace a0 := cell_later hbr.out a0
          replace a1 := cell_later hbr.out a1
          replace a2 := cell_later hbr.out a2
          replace a3 := cell_later hbr.out a3
          have HT : Hid (TksAt w.heap.size w ro xs[q].2) := at4
          have hyl := H8.out xs[q] (List.getElem_mem hlt)
          have R : Hid _ := RS.out q hlt
          have HR8 : Hid (∀ r ∈ Gr.rules ts ns (xs.take q), r.2.length ≤ 8) := Gr.rules_right ts ns xs H8.out q
          clear at4
          generalize xs[q] = y at *
          obtain ⟨⟨yk, yx, yp⟩, yr⟩ := y
          simp only at a0 a1 a2 a3 HT hyl
          generalize Gr.rules ts ns (xs.take q) = rs at *
          have hb5 : Hid (Below wr.heap.size wr (wr.alloc (Obj.cells #[Value.int IntKind.i64 yk, Value.string yx, Value.int IntKind.i64 yp, Value.slice ro yr.length rrc] 93))) := (Below.refl _ wr).alloc (Nat.le_refl _) _
          have hb5w : Hid (Below w.heap.size w (wr.alloc (Obj.cells #[Value.int IntKind.i64 yk, Value.string yx, Value.int IntKind.i64 yp, Value.slice ro yr.length rrc] 93))) := hbr.out.trans (hb5.out.mono hbr.out.size)
          have hb52 : Hid (Below w2.heap.size w2 (wr.alloc (Obj.cells #[Value.int IntKind.i64 yk, Value.string yx, Value.int IntKind.i64 yp, Value.slice ro yr.length rrc] 93))) := hinv.out.below.trans (hb5.out.mono hinv.out.below.size)
          go_wp2_with fail
          refine (ruleOf_any ⟨ts, ns, rs⟩ ⟨to, tc, no, nc, ra, rc⟩ ⟨yk, yx, yp⟩ yr ro rrc _ hyl (HT.out.later hb5w.out).size (HS1.out.later hb52.out).size (HS2.out.later hb52.out).size (by show ts.length ≤ 2000; omega) (by show ns.length ≤ 2000; omega)).mono ?_
          rintro e w5 ⟨xo, xc, rfl, hoi, hb6⟩
          simp only at hoi R ⊢
          have hr8 : (Gr.rule ts ns (⟨yk, yx, yp⟩, yr)).2.length ≤ 8 := by simpa [Gr.rule] using hyl
          generalize Gr.rule ts ns (⟨yk, yx, yp⟩, yr) = r at *
          obtain ⟨rl, rr⟩ := r
          simp only at hoi hr8 ⊢
          have HG5 : Hid (GInv w2 w5 ts.length ns.length ⟨to, tc, no, nc, none, 0⟩ ra rc rs) := (hinv.out.later hb5.out).later hb6
          have HOI : Hid (OwnInts (w2.heap.size + 1) w5 (.slice xo rr.length xc) rr) := ownsRow_from hoi (by simp; omega)
          clear hb5 hb5w hb52 hb6 hoi a0 a1 a2 a3 g0 g1 g2 gz0 gz1 gz2 hinv HT
          obtain ⟨g0, g1, g2, gz0, gz1, gz2⟩ := cells_three_z HG5.out.gb
          have hlt5 := HG5.out.lt
          have hb7 : Hid (Below w5.heap.size w5 (w5.alloc (Obj.cells #[Value.int IntKind.i64 rl, Value.slice xo rr.length xc] 45))) := (Below.refl _ w5).alloc (Nat.le_refl _) _
          have HAL : Hid (∀ b, Gr.has (rl, rr) rs = b → Calls Tryz.prog 66 #[.slice ra rs.length rc, .agg #[.int .i64 rl, .slice xo rr.length xc]] (w5.alloc (Obj.cells #[Value.int IntKind.i64 rl, Value.slice xo rr.length xc] 45))
              fun e w' => e = .returned (.bool b) ∧ Below (w5.alloc (Obj.cells #[Value.int IntKind.i64 rl, Value.slice xo rr.length xc] 45)).heap.size (w5.alloc (Obj.cells #[Value.int IntKind.i64 rl, Value.slice xo rr.length xc] 45)) w') := fun b hb => by
            obtain ⟨_, _, hv, hrd, _⟩ := (HG5.out.own.below hb7.out).read
            cases hv
            obtain ⟨_, _, hv, hid, _⟩ := OwnInts.read (ownsRow_below HOI.out hb7.out)
            cases hv
            exact hasAlike_is b rs (rl, rr) (by omega) (fun r hr => by have := HR8.out r hr; omega) ra xo rc xc _ hrd hid hb
          cases hin : Gr.has (rl, rr) rs
          · have HP : Hid (Gr.put rs (rl, rr) = rs ++ [(rl, rr)]) := Gr.put_new (Gr.has_no hin)
            rw [HP.out] at R
            have HAL' : Hid (∀ _ : Unit, _) := fun _ => HAL.out _ hin
            clear HAL hin HP
            go_wp2_with fail
            refine (HAL'.out ()).mono ?_
            rintro e w8 ⟨rfl, hb8⟩
            have HG8 : Hid (GInv w2 w8 ts.length ns.length ⟨to, tc, no, nc, none, 0⟩ ra rc rs) := (HG5.out.later hb7.out).later hb8
            have HO8 : Hid (OwnInts (w2.heap.size + 1) w8 (.slice xo rr.length xc) rr) := ownsRow_below (ownsRow_below HOI.out hb7.out) hb8
            have r0 : w8.cell? ⟨w5.heap.size, 0, none⟩ = some (.int .i64 rl) := (hb8.cell (by simp)).trans (by simp [go_sem])
            have r1 : w8.cell? ⟨w5.heap.size, 1, none⟩ = some (.slice xo rr.length xc) := (hb8.cell (by simp)).trans (by simp [go_sem])
            have hz8 : w5.heap.size < w8.heap.size := by have := hb8.size; simp at this; omega
            clear g0 g1 g2 gz0 gz1 gz2 HAL' hb8 hb7
            obtain ⟨g0, g1, g2, gz0, gz1, gz2⟩ := cells_three_z HG8.out.gb
            have hlt8 := HG8.out.lt
            have hb9 : Hid (Below w8.heap.size w8 (w8.alloc (Obj.cells #[Value.int IntKind.i64 rl, Value.slice xo rr.length xc] 45))) := (Below.refl _ w8).alloc (Nat.le_refl _) _
            go_wp2_with (first
              | (at_builtin; refine wpList_append_rl rfl _ _ rfl (w2.heap.size + 1) _ rs rfl (HG8.out.own.below hb9.out) w8.heap.size 1 (rl, rr) xo xc rfl (by simp [go_sem]) (by simp [go_sem]) (ownsRow_below HO8.out hb9.out) (by omega) (by simp; omega) ?_; intro ga cap w9 ho9 hg9; obtain ⟨d0, d1, d2, dz0, dz1, dz2⟩ := cells_three_z ((HG8.out.later hb9.out).grown hg9)))
            have HG9 : Hid (GInv w2 (w9.setCell ⟨w2.heap.size, 2, none⟩ (.slice (some ⟨ga, 0, none⟩) (rs.length + 1) cap)) ts.length ns.length ⟨to, tc, no, nc, none, 0⟩ (some ⟨ga, 0, none⟩) cap (Gr.rules ts ns (xs.take (q + 1)))) := by
              rw [R.out]
              have := (HG8.out.later hb9.out).push (rs' := rs ++ [(rl, rr)]) (ra' := some ⟨ga, 0, none⟩) (rc' := cap) hg9 (by rw [List.length_append]; exact ho9)
              rw [List.length_append] at this
              exact this
            go_roundw
            case rel => exact ⟨q + 1, _, _, by omega, by go_num, HG9⟩
            case measure => simp [intOf]; omega
          · have HP : Hid (Gr.put rs (rl, rr) = rs) := Gr.put_in (Gr.has_yes hin)
            rw [HP.out] at R
            have HAL' : Hid (∀ _ : Unit, _) := fun _ => HAL.out _ hin
            clear HAL hin HP
            go_wp2_with fail
            refine (HAL'.out ()).mono ?_
            rintro e w8 ⟨rfl, hb8⟩
            have HG8 : Hid (GInv w2 w8 ts.length ns.length ⟨to, tc, no, nc, none, 0⟩ ra rc rs) := (HG5.out.later hb7.out).later hb8
            rw [← R.out] at HG8
            clear g0 g1 g2 gz0 gz1 gz2 HAL' hb8 hb7
            go_wp2_with fail
            go_roundw
            case rel => exact ⟨q + 1, _, _, by omega, by go_num, HG8⟩
            case measure => simp [intOf]; omega
        · have HK : Hid (xs.take q = xs) := by show _ = _; rw [List.take_of_length_le (by omega)]
          rw [HK.out] at hinv hrl g2
          obtain ⟨e0, e1, e2, ez0, ez1, ez2⟩ := cells_three_z ((hinv.out.below.block _ hz2).trans hr2)
          have hlw : w.heap.size < wr.heap.size := by omega
          have hne : w.heap.size ≠ w2.heap.size := by omega
          go_wp2_with fail
          refine bodyPost_ret (v := .agg #[.slice to ts.length tc, .slice no ns.length nc, .slice ra (Gr.rules ts ns xs).length rc]) (by simp [results, Tryz.results39, go_sem, e0, e1, e2]) rfl ?_
          have hs0 : w.heap.size < w.heap.size + 1 := Nat.lt_succ_self _
          have hs2 : w.heap.size < w2.heap.size + 1 := by omega
          have k1 := ownsRow_setCell_below (ownsRow_setCell_below (ownsRow_setCell_below (ownsRow_below HO1.out hinv.out.below) (a := ⟨w.heap.size, 0, none⟩) hs0 (.slice to ts.length tc)) (a := ⟨w.heap.size, 1, none⟩) hs0 (.slice no ns.length nc)) (a := ⟨w.heap.size, 2, none⟩) hs0 (.slice ra (Gr.rules ts ns xs).length rc)
          have k2 := ownsRow_setCell_below (ownsRow_setCell_below (ownsRow_setCell_below (ownsRow_below HO2.out hinv.out.below) (a := ⟨w.heap.size, 0, none⟩) hs0 (.slice to ts.length tc)) (a := ⟨w.heap.size, 1, none⟩) hs0 (.slice no ns.length nc)) (a := ⟨w.heap.size, 2, none⟩) hs0 (.slice ra (Gr.rules ts ns xs).length rc)
          have k3 := ((hinv.out.own.setCell (a := ⟨w.heap.size, 0, none⟩) hs2 (.slice to ts.length tc)).setCell (a := ⟨w.heap.size, 1, none⟩) hs2 (.slice no ns.length nc)).setCell (a := ⟨w.heap.size, 2, none⟩) hs2 (.slice ra (Gr.rules ts ns xs).length rc)
          refine ⟨((hbr.out.setCell (by exact Nat.le_refl _) _).setCell (by exact Nat.le_refl _) _).setCell (by exact Nat.le_refl _) _, .inr ⟨⟨ts, ns, Gr.rules ts ns xs⟩, ⟨to, tc, no, nc, ra, rc⟩, P.out, rfl, ?_⟩⟩
          exact ⟨ownsRow_from k1 (by omega), ownsRow_from k2 (by omega), k3.from (by omega), HTM.out, HNM.out⟩
  · have P : Hid (Gr.of xs = .error (13, p)) := EU.out p hu
    clear EU EL EO hu
    unfold thrown
    go_wp2_with fail
    exact ⟨rfl, hb4w.out, .inl ⟨_, P.out, rfl⟩⟩
end Go.Proofs.YtdjjconccneaiaaGreat
