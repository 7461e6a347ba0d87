/-
  Rows of tokens that grow side by side: what holds of memory while the laws ReadBack and ReadBars build their tokens.
-/
import Derived.Test.YtjcgnablfhkmoaaReadOpen
import Derived.Test.YtjcgnablfhkmoaaReadMath2
import Derived.Test.YtjcgnablfhkmoaaReadAppend
namespace Go.Proofs.Ytjcgnablfhkmoaa
open Go.RowKit

/-- append onto a row of tokens; where its block is -/
theorem wpList_append_tka {ops : Array Oper} {rest : List Oper} {o : Oper} {a : Act} {Q : Exit → Act → World → Prop} {w : World} (hw : Region.wanted o (yielded ops a.tmps) = true) (s x : Operand)
    (ho : o.op = .call { callee := .builtin .append, args := #[s, x], argTypes := #[22, 22] }) (base : Nat) (v : Value) (n : Nat) (xs : List Value) (hs : a.eval s = v) (hown : w.ownsRow base 38 3 v n xs)
    (ad : Addr) (m c : Nat) (news : List Value) (hx : a.eval x = .slice (some ad) m c) (hl : news.length = m * 3) (hnews : ∀ j u, news[j]? = some u → w.cell? (ad.add j) = some u) (h1 : ∀ u ∈ news, u.oneCell' = true)
    (hm : 0 < m) (hb : n + m ≤ 2000) (hbase : base ≤ w.heap.size)
    (h : ∀ g cap w', w'.ownsRow base 38 3 (.slice (some ⟨g, 0, none⟩) (n + m) cap) (n + m) (xs ++ news) → w.grownBy w' v.ownBlock → (v.ownBlock = some g ∨ g = w.heap.size) → wpList Try.prog ops Q rest (a.put o.dst (.slice (some ⟨g, 0, none⟩) (n + m) cap)) w') : wpList Try.prog ops Q (o :: rest) a w := by
  obtain ⟨iA, hi, hz0, hz1, hz2⟩ := info_parts Try.infoTk
  exact wpList_wanted hw fun K hK => wp_append_lies _ s x 22 ho base 38 iA _ 3 32 Try.underlying22 hi hz0 hz1 hz2 rfl (by decide) v n xs hs hown ad m c news hx hl hnews h1 hm (by unfold maxLen; omega) (by omega) hbase _ rfl
    (fun g cap w' h2 h3 h4 _ => hK _ _ (h g cap w' h2 h3 h4))

/-- the tokens' row, the alternatives' rows: apart from each other -/
structure BInv (w wr : World) (tv wv : Value) (T : List Rd.Tk) (A : List Rd.Al) : Prop where
  below : Below w.heap.size w wr
  t : wr.ownsRow w.heap.size 38 3 tv T.length (tksCells T)
  want : ∃ ps : List (Rd.Al × Value), ps.map (·.1) = A ∧ wr.ownsRow w.heap.size 40 4 wv A.length (alsCells ps) ∧
    ∀ p ∈ ps, wr.ownsRow w.heap.size 38 3 p.2 p.1.2.length (tksCells p.1.2) ∧ (p.2.ownBlock = none ∨ p.2.ownBlock ≠ tv.ownBlock)

theorem BInv.start (w : World) : BInv w w (.slice none 0 0) (.slice none 0 0) [] [] :=
  ⟨Below.refl _ _, World.ownsRow_nil _ _ _ _, [], rfl, World.ownsRow_nil _ _ _ _, fun p hp => by simp at hp⟩

/-- within a round: one alternative's own block, its right side's row, the tokens' row -/
structure CInv (w ws wi : World) (tv0 : Value) (bx : Nat) (l : Rd.Tk) (tv xv : Value) (T R : List Rd.Tk) : Prop where
  base : w.heap.size ≤ ws.heap.size ∧ ws.heap.size ≤ bx
  grown : ws.grownBy wi tv0.ownBlock
  old : ∀ k, tv0.ownBlock = some k → w.heap.size ≤ k ∧ k < ws.heap.size
  blk : wi.heap[bx]? = some (.cells #[.int .i64 l.kind, .string l.text, .int .i64 l.pos, xv] 40 (0, 0))
  t : wi.ownsRow w.heap.size 38 3 tv T.length (tksCells T)
  tb : tv.ownBlock = tv0.ownBlock ∨ ∀ k, tv.ownBlock = some k → bx < k
  x : wi.ownsRow (bx + 1) 38 3 xv R.length (tksCells R)
  ap : xv.ownBlock = none ∨ xv.ownBlock ≠ tv.ownBlock

theorem CInv.lt {w ws wi : World} {tv0 tv xv : Value} {bx : Nat} {l : Rd.Tk} {T R : List Rd.Tk} (h : CInv w ws wi tv0 bx l tv xv T R) : bx < wi.heap.size := (Array.getElem?_eq_some_iff.1 h.blk).1

theorem CInv.below {w ws wi : World} {tv0 tv xv : Value} {bx : Nat} {l : Rd.Tk} {T R : List Rd.Tk} (h : CInv w ws wi tv0 bx l tv xv T R) : Below w.heap.size ws wi :=
  (Below.refl _ ws).grown h.grown h.base.1 (fun k hk => (h.old k hk).1)

theorem CInv.later {w ws wi w1 : World} {tv0 tv xv : Value} {bx : Nat} {l : Rd.Tk} {T R : List Rd.Tk} (h : CInv w ws wi tv0 bx l tv xv T R) (hb : Below wi.heap.size wi w1) : CInv w ws w1 tv0 bx l tv xv T R where
  base := h.base
  grown := grown_trans h.grown (grown_of_below hb)
  old := h.old
  blk := by rw [hb.block bx h.lt]; exact h.blk
  t := ownsRow_below h.t hb
  tb := h.tb
  x := ownsRow_below h.x hb
  ap := h.ap

theorem CInv.neT {w ws wi : World} {tv0 tv xv : Value} {bx : Nat} {l : Rd.Tk} {T R : List Rd.Tk} (h : CInv w ws wi tv0 bx l tv xv T R) : some bx ≠ tv.ownBlock := by
  intro e
  rcases h.tb with hh | hh
  · rw [hh] at e
    have := (h.old bx e.symm).2
    have := h.base.2
    omega
  · exact absurd (hh bx e.symm) (Nat.lt_irrefl _)

theorem CInv.neX {w ws wi : World} {tv0 tv xv : Value} {bx : Nat} {l : Rd.Tk} {T R : List Rd.Tk} (h : CInv w ws wi tv0 bx l tv xv T R) : some bx ≠ xv.ownBlock := by
  intro e
  have := (h.x.lt bx e.symm).1
  omega

/-- what it is that only blocks behind a block have changed -/
theorem grown_new {ws wi w1 : World} {tv0 v : Value} (hg : ws.grownBy wi tv0.ownBlock) (h1 : wi.grownBy w1 v.ownBlock) (hv : v.ownBlock = tv0.ownBlock ∨ ∀ k, v.ownBlock = some k → ws.heap.size ≤ k) : ws.grownBy w1 tv0.ownBlock :=
  ⟨h1.os.trans hg.os, h1.tape.trans hg.tape, h1.output.trans hg.output, Nat.le_trans hg.size h1.size, fun k hk hne => by
    rw [h1.block k (Nat.lt_of_lt_of_le hk hg.size) (fun e => by
      rcases hv with hv | hv
      · exact hne (by rw [e, hv])
      · have := hv k e.symm; omega)]
    exact hg.block k hk hne⟩

theorem CInv.pushT {w ws wi w1 : World} {tv0 tv xv : Value} {bx : Nat} {l : Rd.Tk} {T R : List Rd.Tk} (h : CInv w ws wi tv0 bx l tv xv T R) (N : List Rd.Tk) {g n cap : Nat}
    (ho : w1.ownsRow w.heap.size 38 3 (.slice (some ⟨g, 0, none⟩) n cap) n (tksCells T ++ tksCells N)) (hn : n = (T ++ N).length) (hg : wi.grownBy w1 tv.ownBlock) (hat : tv.ownBlock = some g ∨ g = wi.heap.size) :
    CInv w ws w1 tv0 bx l (.slice (some ⟨g, 0, none⟩) n cap) xv (T ++ N) R where
  base := h.base
  grown := grown_new h.grown hg (by
    rcases h.tb with hh | hh
    · exact .inl hh
    · exact .inr fun k hk => by have := hh k hk; have := h.base.2; omega)
  old := h.old
  blk := by rw [hg.block bx h.lt h.neT]; exact h.blk
  t := by rw [tksCells_append]; subst hn; exact ho
  tb := by
    rcases hat with hh | hh
    · rcases h.tb with h2 | h2
      · left; rw [← h2, hh]; rfl
      · right; intro k hk; apply h2; rw [hh]; exact hk
    · right; intro k hk
      have : k = g := by simpa [Value.ownBlock] using hk.symm
      have := h.lt
      omega
  x := h.x.kept hg h.ap
  ap := by
    rcases h.ap with hh | hh
    · exact .inl hh
    · refine .inr fun e => ?_
      rcases hat with h2 | h2
      · exact hh (by rw [e, h2]; rfl)
      · have := (h.x.lt g (by rw [e]; rfl)).2
        omega

theorem CInv.pushX {w ws wi w1 : World} {tv0 tv xv : Value} {bx : Nat} {l : Rd.Tk} {T R : List Rd.Tk} (h : CInv w ws wi tv0 bx l tv xv T R) (y : Rd.Tk) {g n cap : Nat}
    (ho : w1.ownsRow (bx + 1) 38 3 (.slice (some ⟨g, 0, none⟩) n cap) n (tksCells R ++ tkCells y)) (hn : n = (R ++ [y]).length) (hg : wi.grownBy w1 xv.ownBlock) (hat : xv.ownBlock = some g ∨ g = wi.heap.size) :
    CInv w ws (w1.setCell ⟨bx, 3, none⟩ (.slice (some ⟨g, 0, none⟩) n cap)) tv0 bx l tv (.slice (some ⟨g, 0, none⟩) n cap) T (R ++ [y]) where
  base := h.base
  grown := by
    have h1 := grown_new h.grown hg (.inr fun k hk => by have := (h.x.lt k hk).1; have := h.base.2; omega)
    exact ⟨h1.os, h1.tape, h1.output, by rw [size_setCell]; exact h1.size, fun k hk hne => by
      rw [Below.heap_setCell _ _ _ _ (by show k ≠ bx; have := h.base.2; omega)]; exact h1.block k hk hne⟩
  old := h.old
  blk := by
    have e : w1.heap[bx]? = some (.cells #[.int .i64 l.kind, .string l.text, .int .i64 l.pos, xv] 40 (0, 0)) := by rw [hg.block bx h.lt h.neX]; exact h.blk
    simp [World.setCell, Array.getElem?_modify, e]
  t := by
    have ht : tv.ownBlock = none ∨ tv.ownBlock ≠ xv.ownBlock := by
      rcases h.ap with hh | hh
      · cases e : tv.ownBlock with
        | none => exact .inl rfl
        | some k => right; rw [hh]; intro e2; cases e2
      · exact .inr (fun e => hh e.symm)
    exact ownsRow_setCell_far (h.t.kept hg ht) (fun e => h.neT e.symm) _
  tb := h.tb
  x := by
    rw [tksCells_snoc]
    subst hn
    exact ownsRow_setCell_below ho (by exact Nat.lt_succ_self _) _
  ap := by
    rcases hat with h2 | h2
    · rcases h.ap with hh | hh
      · rw [h2] at hh; cases hh
      · right; intro e; exact hh (by rw [h2]; exact e)
    · right; intro e
      have := (h.t.lt g (by rw [← e]; rfl)).2
      omega
where
  ownsRow_setCell_far {w : World} {base : Nat} {e : TypeId} {size : Nat} {v : Value} {n : Nat} {xs : List Value} (h : w.ownsRow base e size v n xs) {a : Addr} (ha : v.ownBlock ≠ some a.block) (u : Value) : (w.setCell a u).ownsRow base e size v n xs := by
    refine ⟨h.1, ?_⟩
    rcases h.2 with hn | ⟨g, cap, cur, rfl, h1, hgg, rest⟩
    · exact .inl hn
    · refine .inr ⟨g, cap, cur, rfl, h1, ?_, rest⟩
      rw [Below.heap_setCell _ _ _ _ (fun e => ha (by rw [← e]; rfl))]
      exact hgg

theorem CInv.begin {w ws : World} {tv0 wv : Value} {T : List Rd.Tk} {A : List Rd.Al} (h : BInv w ws tv0 wv T A) (l : Rd.Tk) :
    CInv w ws (ws.alloc (.cells #[.int .i64 l.kind, .string l.text, .int .i64 l.pos, .slice none 0 0] 40)) tv0 ws.heap.size l tv0 (.slice none 0 0) T [] where
  base := ⟨h.below.size, Nat.le_refl _⟩
  grown := grown_of_below ((Below.refl _ ws).alloc (Nat.le_refl _) _)
  old := fun k hk => h.t.lt k hk
  blk := heap_alloc_new _ _
  t := h.t.alloc _
  tb := .inl rfl
  x := World.ownsRow_nil _ _ _ _
  ap := .inl rfl

/-- the alternatives' row is as it was -/
theorem CInv.row {w ws wi : World} {tv0 wv tv xv : Value} {bx : Nat} {l : Rd.Tk} {T0 T R : List Rd.Tk} {A : List Rd.Al} (hB : BInv w ws tv0 wv T0 A) (h : CInv w ws wi tv0 bx l tv xv T R) {ps : List (Rd.Al × Value)}
    (h2 : ws.ownsRow w.heap.size 40 4 wv A.length (alsCells ps)) : wi.ownsRow w.heap.size 40 4 wv A.length (alsCells ps) :=
  h2.kept h.grown (by
    rcases row_other hB.t h2 with e | e
    · cases e2 : wv.ownBlock with
      | none => exact .inl rfl
      | some k => right; rw [e]; intro e3; cases e3
    · exact .inr (fun e2 => e e2.symm))

/-- a round is over: the alternative is laid behind the others -/
theorem CInv.finish {w ws wi w1 : World} {tv0 wv tv xv : Value} {bx : Nat} {l : Rd.Tk} {T0 T R : List Rd.Tk} {A : List Rd.Al} (hB : BInv w ws tv0 wv T0 A) (h : CInv w ws wi tv0 bx l tv xv T R) {g n cap : Nat} {ps : List (Rd.Al × Value)}
    (h1 : ps.map (·.1) = A) (h2 : ws.ownsRow w.heap.size 40 4 wv A.length (alsCells ps))
    (h3 : ∀ p ∈ ps, ws.ownsRow w.heap.size 38 3 p.2 p.1.2.length (tksCells p.1.2) ∧ (p.2.ownBlock = none ∨ p.2.ownBlock ≠ tv0.ownBlock))
    (hn : n = A.length + 1) (hw : w1.ownsRow w.heap.size 40 4 (.slice (some ⟨g, 0, none⟩) n cap) n (alsCells ps ++ alCells ((l, R), xv)))
    (hg : wi.grownBy w1 wv.ownBlock) : BInv w w1 tv (.slice (some ⟨g, 0, none⟩) n cap) T (A ++ [(l, R)]) := by
  have h2' : wi.ownsRow w.heap.size 40 4 wv A.length (alsCells ps) := CInv.row hB h h2
  have h3' : ∀ p ∈ ps, wi.ownsRow w.heap.size 38 3 p.2 p.1.2.length (tksCells p.1.2) := fun p hp => (h3 p hp).1.kept h.grown (h3 p hp).2
  have hx : wi.ownsRow w.heap.size 38 3 xv R.length (tksCells R) := ownsRow_from h.x (by have := h.base; omega)
  have hb : Below w.heap.size w w1 := (hB.below.trans h.below).grown hg (Nat.le_trans hB.below.size h.grown.size) (fun k hk => (h2.lt k hk).1)
  refine ⟨hb, h.t.kept hg (row_other h.t h2'), ps ++ [((l, R), xv)], by simp [h1], ?_, fun p hp => ?_⟩
  · rw [List.length_append, List.length_singleton, alsCells_append, ← hn]
    simpa [alsCells] using hw
  · rcases List.mem_append.1 hp with hp | hp
    · refine ⟨(h3' p hp).kept hg (row_other (h3' p hp) h2'), ?_⟩
      cases e0 : p.2.ownBlock with
      | none => exact .inl rfl
      | some q =>
        right
        have hq := ((h3 p hp).1.lt q e0).2
        rcases h.tb with e2 | e2
        · rw [e2, ← e0]
          rcases (h3 p hp).2 with e | e
          · rw [e0] at e; cases e
          · exact e
        · intro e3
          have h5 := e2 q e3.symm
          have := h.base.2
          omega
    · simp at hp
      subst hp
      exact ⟨hx.kept hg (row_other hx h2'), h.ap⟩
end Go.Proofs.Ytjcgnablfhkmoaa
