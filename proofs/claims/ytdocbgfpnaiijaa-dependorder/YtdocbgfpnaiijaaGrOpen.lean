/-
  Tokens, rows of tokens, alternatives, rows of rows, as arguments: what their reading as data says of memory.
  Texts, numbers, rules, grammars, pairs of numbers as arguments: what their reading as data says of memory.
-/
import Derived.Test.YtdocbgfpnaiijaaReadAlts
import Derived.ProofKit
import Derived.OpenShut
import Derived.Deep.Slices
import Derived.Deep.Strs
import Derived.Test.YtdocbgfpnaiijaaGrLib
namespace Go.Proofs.Ytdocbgfpnaiijaa
open Go.ChangeShapes Go.WideShapes Go.ChangeAt Go.RowKit Go.Deep

instance : Inhabited Rd.Tk := ⟨⟨0, ⟨#[]⟩, 0⟩⟩

section
variable {H : Type} {enc : TypeId × Value → H} {w : World} {base : Nat} {spare : Nat → Bool} {held : Bool}

theorem cellsTk : Try.prog.cellsOf 101 = 3 := by kernel_rfl
theorem cellsInt : Try.prog.cellsOf 3 = 1 := by kernel_rfl
theorem cellsStr : Try.prog.cellsOf 9 = 1 := by kernel_rfl
theorem cellsTks : Try.prog.cellsOf 102 = 1 := by kernel_rfl
theorem cellsAlt : Try.prog.cellsOf 104 = 4 := by kernel_rfl

/-- a token's cells -/
theorem open_tk {fuel : Nat} {cs : List Value} {x : DataW H × List MemPlace} (h : DataW.trod enc Try.prog w base spare held fuel 101 cs = some x) :
    ∃ t : Rd.Tk, cs = tkCells t ∧ t.text.size ≤ maxLen := by
  obtain ⟨y0, y1, y2, n, _, hl, h0, h1, h2⟩ := trod_struct3 Try.underlying101 h
  rw [cellsTk] at hl
  simp only [cellsInt, cellsStr] at h0 h1 h2
  match cs, hl with
  | [a, b, c], _ =>
    simp only [List.drop_zero, List.take_succ_cons, List.take_zero, List.drop_succ_cons] at h0 h1 h2
    obtain ⟨k, e0, _, _⟩ := DataW.trod_int Try.underlying3 h0
    obtain ⟨s, e1, _, hs⟩ := DataW.trod_string Try.underlying9 h1
    obtain ⟨p, e2, _, _⟩ := DataW.trod_int Try.underlying3 h2
    cases e0; cases e1; cases e2
    exact ⟨⟨k, s, p⟩, rfl, hs⟩

/-- a row of tokens -/
theorem open_tks {fuel : Nat} {cs : List Value} {x : DataW H × List MemPlace} (h : DataW.trod enc Try.prog w base spare held fuel 102 cs = some x) :
    ∃ (ao : Option Addr) (c : Nat) (ts : List Rd.Tk), cs = [.slice ao ts.length c] ∧ TksAt w.heap.size w ao ts ∧ (ts.length ≤ c ∧ c ≤ maxLen) ∧ ∀ t ∈ ts, t.text.size ≤ maxLen := by
  rcases open_slice Try.underlying102 h with ⟨rfl, _⟩ | ⟨a, len, cap, m, n, D, Pl, rfl, hb, hl, hm, hmm, _, hx⟩
  · exact ⟨none, 0, [], rfl, TksAt.nil, ⟨Nat.le_refl _, Nat.zero_le _⟩, fun t ht => by simp at ht⟩
  · have hlm : len ≤ m := by rw [hmm]; split <;> omega
    have each : ∀ i, i < len → ∃ t : Rd.Tk, t.text.size ≤ maxLen ∧ ∀ j, j < 3 → w.cell? (a.add (i * 3 + j)) = (tkCells t)[j]? := by
      intro i hi
      obtain ⟨cs', h1, h2⟩ := hx i (by omega)
      rw [cellsTk] at h1
      obtain ⟨t, rfl, ht⟩ := open_tk h2
      obtain ⟨_, _, hcell⟩ := World.cells?_some h1
      exact ⟨t, ht, fun j hj => by rw [← add_add]; exact hcell j hj⟩
    obtain ⟨f, hf⟩ := choose_lt each
    refine ⟨some a, cap, (List.range len).map f, by simp, ?_, ⟨by simpa using hl, hm⟩, ?_⟩
    · intro i hi
      have hi' : i < len := by simpa using hi
      have z := (hf 0 (by omega)).2 0 (by omega)
      obtain ⟨b, o, sp⟩ := a
      have hsp : sp = none := by
        cases sp with
        | none => rfl
        | some q =>
          have z' : w.cell? ⟨b, o, some q⟩ = (tkCells (f 0))[0]? := by simpa [Addr.add] using z
          rw [World.cell?] at z'
          cases hh : w.heap[b]? with
          | none => simp [hh, tkCells] at z'
          | some ob => cases ob <;> simp [hh, tkCells] at z'
      subst hsp
      have e : ((List.range len).map f)[i] = f i := by simp
      have c0 := (hf i hi').2 0 (by omega)
      have c1 := (hf i hi').2 1 (by omega)
      have c2 := (hf i hi').2 2 (by omega)
      rw [addr_off_add] at c0 c1 c2
      rw [e]
      have hlt := World.block_lt_of_cell? _ _ (show w.cell? _ = some _ from c0)
      exact ⟨b, o, rfl, hlt, hlt, c0, by rw [Nat.add_assoc]; exact c1, by rw [Nat.add_assoc]; exact c2⟩
    · intro t ht
      obtain ⟨i, hi, rfl⟩ := List.mem_map.1 ht
      exact (hf i (by simpa using hi)).1

/-- alternatives that lie in memory, whoever's -/
def AltsIn (w : World) (ao : Option Addr) (xs : List Rd.Al) : Prop :=
  ∀ i (_ : i < xs.length), ∃ b o ro rc, ao = some ⟨b, o, none⟩ ∧ b < w.heap.size ∧
    w.cell? ⟨b, o + i * 4, none⟩ = some (.int .i64 xs[i].1.kind) ∧ w.cell? ⟨b, o + i * 4 + 1, none⟩ = some (.string xs[i].1.text) ∧ w.cell? ⟨b, o + i * 4 + 2, none⟩ = some (.int .i64 xs[i].1.pos) ∧
    w.cell? ⟨b, o + i * 4 + 3, none⟩ = some (.slice ro xs[i].2.length rc) ∧ TksAt w.heap.size w ro xs[i].2 ∧ (xs[i].2.length ≤ rc ∧ rc ≤ maxLen) ∧ xs[i].1.text.size ≤ maxLen ∧ ∀ t ∈ xs[i].2, t.text.size ≤ maxLen

/-- rows of tokens that lie in memory, whoever's -/
def RowsIn (w : World) (ao : Option Addr) (xs : List (List Rd.Tk)) : Prop :=
  ∀ i (_ : i < xs.length), ∃ b o ro rc, ao = some ⟨b, o, none⟩ ∧ b < w.heap.size ∧
    w.cell? ⟨b, o + i, none⟩ = some (.slice ro xs[i].length rc) ∧ TksAt w.heap.size w ro xs[i] ∧ (xs[i].length ≤ rc ∧ rc ≤ maxLen) ∧ ∀ t ∈ xs[i], t.text.size ≤ maxLen

theorem spot_none {a : Addr} {v : Value} (h : w.cell? a = some v) : a = ⟨a.block, a.off, none⟩ ∧ a.block < w.heap.size := by
  refine ⟨?_, World.block_lt_of_cell? _ _ h⟩
  obtain ⟨b, o, sp⟩ := a
  cases sp with
  | none => rfl
  | some q =>
    rw [World.cell?] at h
    cases hh : w.heap[b]? with
    | none => simp [hh] at h
    | some ob => cases ob <;> simp [hh] at h

theorem open_als {fuel : Nat} {cs : List Value} {x : DataW H × List MemPlace} (h : DataW.trod enc Try.prog w base spare held fuel 81 cs = some x) :
    ∃ (ao : Option Addr) (c : Nat) (xs : List Rd.Al), cs = [.slice ao xs.length c] ∧ AltsIn w ao xs ∧ xs.length ≤ c ∧ c ≤ maxLen := by
  rcases open_slice Try.underlying81 h with ⟨rfl, _⟩ | ⟨a, len, cap, m, n, D, Pl, rfl, hb, hl, hm, hmm, _, hx⟩
  · exact ⟨none, 0, [], rfl, fun i hi => by simp at hi, Nat.le_refl _, Nat.zero_le _⟩
  · have hlm : len ≤ m := by rw [hmm]; split <;> omega
    have each : ∀ i, i < len → ∃ q : Rd.Al, w.cell? (a.add (i * 4)) = some (.int .i64 q.1.kind) ∧ w.cell? (a.add (i * 4 + 1)) = some (.string q.1.text) ∧ w.cell? (a.add (i * 4 + 2)) = some (.int .i64 q.1.pos) ∧
        ∃ ro rc, w.cell? (a.add (i * 4 + 3)) = some (.slice ro q.2.length rc) ∧ TksAt w.heap.size w ro q.2 ∧ (q.2.length ≤ rc ∧ rc ≤ maxLen) ∧ q.1.text.size ≤ maxLen ∧ ∀ t ∈ q.2, t.text.size ≤ maxLen := by
      intro i hi
      obtain ⟨cs', h1, h2⟩ := hx i (by omega)
      rw [cellsAlt] at h1
      obtain ⟨_, hlen, hcell⟩ := World.cells?_some h1
      obtain ⟨y0, y1, n', _, _, g0, g1⟩ := trod_struct2 Try.underlying104 h2
      simp only [cellsTk, cellsTks] at g0 g1
      obtain ⟨t, e0, ht⟩ := open_tk g0
      obtain ⟨ro, rc, ts, e1, k1, k2, k3⟩ := open_tks g1
      match cs', hlen with
      | [v0, v1, v2, v3], _ =>
        simp only [List.drop_zero, List.take_succ_cons, List.take_zero, List.drop_succ_cons] at e0 e1
        cases e0; cases e1
        refine ⟨(t, ts), ?_, ?_, ?_, ro, rc, ?_, k1, k2, ht, k3⟩
        · have := hcell 0 (by omega); rw [add_add] at this; simpa using this
        · have := hcell 1 (by omega); rw [add_add] at this; simpa using this
        · have := hcell 2 (by omega); rw [add_add] at this; simpa using this
        · have := hcell 3 (by omega); rw [add_add] at this; simpa using this
    obtain ⟨f, hf⟩ := choose_lt each
    refine ⟨some a, cap, (List.range len).map f, by simp, ?_, by simpa using hl, hm⟩
    intro i hi
    have hi' : i < len := by simpa using hi
    have z := (hf 0 (by omega)).1
    rw [Nat.zero_mul, show a.add 0 = a from by simp [Addr.add]] at z
    obtain ⟨ea, hlt⟩ := spot_none z
    have e : ((List.range len).map f)[i] = f i := by simp
    obtain ⟨c0, c1, c2, ro, rc, c3, k1, k2, k3, k4⟩ := hf i hi'
    rw [ea, addr_off_add] at c0 c1 c2 c3
    rw [e]
    exact ⟨a.block, a.off, ro, rc, by rw [← ea], hlt, c0, by rw [Nat.add_assoc]; exact c1, by rw [Nat.add_assoc]; exact c2, by rw [Nat.add_assoc]; exact c3, k1, k2, k3, k4⟩

end
end Go.Proofs.Ytdocbgfpnaiijaa

namespace Go.Proofs.Ytdocbgfpnaiijaa
open Go.ChangeShapes Go.WideShapes Go.ChangeAt Go.RowKit Go.Deep

section
variable {H : Type} {enc : TypeId × Value → H} {w : World} {base : Nat} {spare : Nat → Bool} {held : Bool}

theorem cellsRl : Try.prog.cellsOf 31 = 2 := by kernel_rfl
theorem cellsIs : Try.prog.cellsOf 29 = 1 := by kernel_rfl
theorem cellsSs : Try.prog.cellsOf 22 = 1 := by kernel_rfl
theorem cellsRs : Try.prog.cellsOf 23 = 1 := by kernel_rfl
theorem cellsGm : Try.prog.cellsOf 25 = 3 := by kernel_rfl

/-- a row of cells, each read as something -/
theorem open_row {α : Type} {t e : TypeId} {fuel : Nat} {cs : List Value} {x : DataW H × List MemPlace} (f : α → Value) (P : α → Prop) (d : α) (ht : Try.prog.underlying t = some (.slice e)) (hc : Try.prog.cellsOf e = 1)
    (he : ∀ (fuel : Nat) (cs : List Value) (x : DataW H × List MemPlace), DataW.trod enc Try.prog w base spare held fuel e cs = some x → ∃ y, cs = [f y] ∧ P y)
    (h : DataW.trod enc Try.prog w base spare held fuel t cs = some x) :
    ∃ (ao : Option Addr) (c : Nat) (ys : List α), cs = [.slice ao ys.length c] ∧ CellsAt w.heap.size w ao (ys.map f) ∧ (ys.length ≤ c ∧ c ≤ maxLen) ∧ ∀ y ∈ ys, P y := by
  haveI : Inhabited α := ⟨d⟩
  rcases open_slice ht h with ⟨rfl, _⟩ | ⟨a, len, cap, m, n, D, Pl, rfl, hb, hl, hm, hmm, _, hx⟩
  · exact ⟨none, 0, [], rfl, CellsAt.nil, ⟨Nat.le_refl _, Nat.zero_le _⟩, fun t ht => by simp at ht⟩
  · have hlm : len ≤ m := by rw [hmm]; split <;> omega
    have each : ∀ i, i < len → ∃ y : α, P y ∧ w.cell? (a.add i) = some (f y) := by
      intro i hi
      obtain ⟨cs', h1, h2⟩ := hx i (by omega)
      rw [hc] at h1
      obtain ⟨y, rfl, hp⟩ := he _ _ _ h2
      obtain ⟨_, _, hcell⟩ := World.cells?_some h1
      have := hcell 0 (by omega)
      rw [add_add] at this
      exact ⟨y, hp, by simpa using this⟩
    obtain ⟨g, hg⟩ := choose_lt each
    refine ⟨some a, cap, (List.range len).map g, by simp, ?_, ⟨by simpa using hl, hm⟩, ?_⟩
    · intro i hi
      have hi' : i < len := by simpa using hi
      obtain ⟨e1, e2⟩ := spot_none (hg i hi').2
      have z := (hg i hi').2
      obtain ⟨b, o, sp⟩ := a
      have hsp : sp = none := by
        cases sp with
        | none => rfl
        | some q =>
          have z0 := (hg 0 (by omega)).2
          have z' : w.cell? ⟨b, o, some q⟩ = some (f (g 0)) := by simpa [Addr.add] using z0
          obtain ⟨e, _⟩ := spot_none z'
          cases e
      subst hsp
      rw [addr_off_add] at z e2
      have hlt := World.block_lt_of_cell? _ _ z
      exact ⟨b, o, rfl, hlt, hlt, by simpa using z⟩
    · intro y hy
      obtain ⟨i, hi, rfl⟩ := List.mem_map.1 hy
      exact (hg i (by simpa using hi)).1

theorem open_sts {fuel : Nat} {cs : List Value} {x : DataW H × List MemPlace} (h : DataW.trod enc Try.prog w base spare held fuel 22 cs = some x) :
    ∃ (ao : Option Addr) (c : Nat) (ss : List ByteArray), cs = [.slice ao ss.length c] ∧ StrsAt w.heap.size w ao ss ∧ (ss.length ≤ c ∧ c ≤ maxLen) ∧ ∀ s ∈ ss, s.size ≤ maxLen :=
  open_row Value.string (fun s => s.size ≤ maxLen) ⟨#[]⟩ Try.underlying22 cellsStr (fun fuel cs x h => by
    obtain ⟨s, e1, _, hs⟩ := DataW.trod_string Try.underlying9 h
    exact ⟨s, e1, hs⟩) h

theorem open_its {fuel : Nat} {cs : List Value} {x : DataW H × List MemPlace} (h : DataW.trod enc Try.prog w base spare held fuel 29 cs = some x) :
    ∃ (ao : Option Addr) (c : Nat) (xs : List Int), cs = [.slice ao xs.length c] ∧ IntsAt w.heap.size w ao xs ∧ (xs.length ≤ c ∧ c ≤ maxLen) ∧ ∀ n ∈ xs, (Lit.int .i64 n).wf = true :=
  open_row (Value.int .i64) (fun n => (Lit.int .i64 n).wf = true) 0 Try.underlying29 cellsInt (fun fuel cs x h => by
    obtain ⟨n, e1, _, hn⟩ := DataW.trod_int Try.underlying3 h
    exact ⟨n, e1, hn⟩) h

/-- numbers that are numbers -/
def rlWf (r : Gr.Rl) : Prop := (Lit.int .i64 r.1).wf = true ∧ ∀ n ∈ r.2, (Lit.int .i64 n).wf = true

theorem open_rls {fuel : Nat} {cs : List Value} {x : DataW H × List MemPlace} (h : DataW.trod enc Try.prog w base spare held fuel 23 cs = some x) :
    ∃ (ao : Option Addr) (c : Nat) (rs : List Gr.Rl), cs = [.slice ao rs.length c] ∧ RlsAt w.heap.size w ao rs ∧ (rs.length ≤ c ∧ c ≤ maxLen) ∧ ∀ r ∈ rs, r.2.length ≤ maxLen ∧ rlWf r := by
  rcases open_slice Try.underlying23 h with ⟨rfl, _⟩ | ⟨a, len, cap, m, n, D, Pl, rfl, hb, hl, hm, hmm, _, hx⟩
  · exact ⟨none, 0, [], rfl, RlsAt.nil, ⟨Nat.le_refl _, Nat.zero_le _⟩, fun t ht => by simp at ht⟩
  · have hlm : len ≤ m := by rw [hmm]; split <;> omega
    have each : ∀ i, i < len → ∃ r : Gr.Rl, (r.2.length ≤ maxLen ∧ rlWf r) ∧ ∃ ro rc, w.cell? (a.add (i * 2)) = some (.int .i64 r.1) ∧ w.cell? (a.add (i * 2 + 1)) = some (.slice ro r.2.length rc) ∧ IntsAt w.heap.size w ro r.2 ∧ r.2.length ≤ rc ∧ rc ≤ maxLen := by
      intro i hi
      obtain ⟨cs', h1, h2⟩ := hx i (by omega)
      rw [cellsRl] at h1
      obtain ⟨_, hlen, hcell⟩ := World.cells?_some h1
      obtain ⟨y0, y1, n', _, _, q0, q1⟩ := trod_struct2 Try.underlying31 h2
      simp only [cellsInt, cellsIs] at q0 q1
      match cs', hlen with
      | [v0, v1], _ =>
        simp only [List.drop_zero, List.take_succ_cons, List.take_zero, List.drop_succ_cons] at q0 q1
        obtain ⟨l, e0, _, hlw⟩ := DataW.trod_int Try.underlying3 q0
        obtain ⟨ro, rc, xs, e1, k1, k2, k3⟩ := open_its q1
        cases e0; cases e1
        refine ⟨(l, xs), ⟨Nat.le_trans k2.1 k2.2, hlw, k3⟩, ro, rc, ?_, ?_, k1, k2.1, k2.2⟩
        · have := hcell 0 (by omega); rw [add_add] at this; simpa using this
        · have := hcell 1 (by omega); rw [add_add] at this; simpa using this
    haveI : Inhabited Gr.Rl := ⟨(0, [])⟩
    obtain ⟨g, hg⟩ := choose_lt each
    refine ⟨some a, cap, (List.range len).map g, by simp, ?_, ⟨by simpa using hl, hm⟩, ?_⟩
    · intro i hi
      have hi' : i < len := by simpa using hi
      obtain ⟨_, ro, rc, c0, c1, ki⟩ := hg i hi'
      obtain ⟨b, o, sp⟩ := a
      have hsp : sp = none := by
        cases sp with
        | none => rfl
        | some q =>
          obtain ⟨_, _, _, z0, _⟩ := hg 0 (by omega)
          have z' : w.cell? ⟨b, o, some q⟩ = some (.int .i64 (g 0).1) := by simpa [Addr.add] using z0
          obtain ⟨e, _⟩ := spot_none z'
          cases e
      subst hsp
      rw [addr_off_add] at c0 c1
      have hlt := World.block_lt_of_cell? _ _ c0
      have e : ((List.range len).map g)[i] = g i := by simp
      rw [e]
      exact ⟨b, o, ro, rc, rfl, hlt, hlt, c0, by rw [Nat.add_assoc]; exact c1, ki⟩
    · intro y hy
      obtain ⟨i, hi, rfl⟩ := List.mem_map.1 hy
      exact (hg i (by simpa using hi)).1

/-- a grammar as an argument -/
def GmIn (w : World) (g : Gr.Gm) (A : GA) : Prop := GmAt w.heap.size w g A ∧ ∀ r ∈ g.rules, r.2.length ≤ maxLen ∧ rlWf r

theorem open_gm {fuel : Nat} {cs : List Value} {x : DataW H × List MemPlace} (h : DataW.trod enc Try.prog w base spare held fuel 25 cs = some x) :
    ∃ (g : Gr.Gm) (A : GA), cs = [.slice A.ta g.terms.length A.tc, .slice A.na g.names.length A.nc, .slice A.ra g.rules.length A.rc] ∧ GmIn w g A := by
  obtain ⟨y0, y1, y2, n, _, hl, h0, h1, h2⟩ := trod_struct3 Try.underlying25 h
  rw [cellsGm] at hl
  simp only [cellsSs, cellsRs] at h0 h1 h2
  match cs, hl with
  | [a, b, c], _ =>
    simp only [List.drop_zero, List.take_succ_cons, List.take_zero, List.drop_succ_cons] at h0 h1 h2
    obtain ⟨ta, tc, ts, e0, t1, t2, t3⟩ := open_sts h0
    obtain ⟨na, nc, ns, e1, n1, n2, n3⟩ := open_sts h1
    obtain ⟨ra, rc, rs, e2, r1, r2, r3⟩ := open_rls h2
    cases e0; cases e1; cases e2
    exact ⟨⟨ts, ns, rs⟩, ⟨ta, tc, na, nc, ra, rc⟩, rfl, ⟨t1, n1, r1, t2, n2, r2, t3, n3⟩, r3⟩
end
end Go.Proofs.Ytdocbgfpnaiijaa
