/-
  The laws of layer 1: wakes, and what a list of tokens in memory reads as.
-/
import Derived.Test.YtpeleedpbdnhmaaLexTokens
namespace Go.Proofs.Ytpeleedpbdnhmaa
open Go.RowKit

theorem toksCells_get (ts : List Lx.Tok) (i : Nat) (h : i < ts.length) :
    (toksCells ts)[i * 3]? = some (.int .i64 ts[i].kind) ∧ (toksCells ts)[i * 3 + 1]? = some (.string ⟨ts[i].text.toArray⟩) ∧ (toksCells ts)[i * 3 + 2]? = some (.int .i64 ts[i].pos) := by
  induction ts generalizing i with
  | nil => simp at h
  | cons t r ih =>
    have e : toksCells (t :: r) = .int .i64 t.kind :: .string ⟨t.text.toArray⟩ :: .int .i64 t.pos :: toksCells r := rfl
    cases i with
    | zero => rw [e]; exact ⟨rfl, rfl, rfl⟩
    | succ i =>
      have := ih i (by simpa using h)
      rw [e, show (i + 1) * 3 = i * 3 + 1 + 1 + 1 from by omega, show i * 3 + 1 + 1 + 1 + 1 = i * 3 + 1 + 1 + 1 + 1 from rfl, show i * 3 + 1 + 1 + 1 + 2 = i * 3 + 2 + 1 + 1 + 1 from by omega]
      simp only [List.getElem?_cons_succ, List.getElem_cons_succ]
      exact this

theorem addr_zero_add (g j : Nat) : (⟨g, 0, none⟩ : Addr).add j = ⟨g, j, none⟩ := by unfold Addr.add; split <;> simp_all

/-- a list of tokens in memory: its value, and its cells -/
theorem toks_read {w : World} {base : Nat} {v : Value} {ts : List Lx.Tok} (h : w.ownsRow base 36 3 v ts.length (toksCells ts)) :
    ∃ ao c, v = .slice ao ts.length c ∧ ∀ i (hi : i < ts.length), ∃ g, ao = some ⟨g, 0, none⟩ ∧ base ≤ g ∧ g < w.heap.size ∧
      w.cell? ⟨g, i * 3, none⟩ = some (.int .i64 ts[i].kind) ∧ w.cell? ⟨g, i * 3 + 1, none⟩ = some (.string ⟨ts[i].text.toArray⟩) ∧ w.cell? ⟨g, i * 3 + 2, none⟩ = some (.int .i64 ts[i].pos) := by
  have hc := h
  rcases h.2 with ⟨rfl, h0⟩ | ⟨g, cap, cur, rfl, hg, hh, _⟩
  · exact ⟨none, 0, by rw [h0], fun i hi => by omega⟩
  · refine ⟨_, _, rfl, fun i hi => ⟨g, rfl, hg, (Array.getElem?_eq_some_iff.1 hh).1, ?_, ?_, ?_⟩⟩
    · have := hc.cells (g := g) rfl _ _ (toksCells_get ts i hi).1
      rwa [addr_zero_add] at this
    · have := hc.cells (g := g) rfl _ _ (toksCells_get ts i hi).2.1
      rwa [addr_zero_add] at this
    · have := hc.cells (g := g) rfl _ _ (toksCells_get ts i hi).2.2
      rwa [addr_zero_add] at this

/-- Tokens where what it comes to is known -/
theorem tokens_is (s : ByteArray) (E At : Int) (ts : List Lx.Tok) (w : World) (hs : s.size ≤ maxLen) (HG : Hid (tokensG s.data.toList = (E, At, ts))) :
    Calls Try.prog 10 #[.string s] w fun e w' => ∃ ao c, e = .returned (.tuple #[.slice ao ts.length c, .agg #[.int .i64 E, .int .i64 At]]) ∧ Below w.heap.size w w' ∧
      w'.ownsRow w.heap.size 36 3 (.slice ao ts.length c) ts.length (toksCells ts) := by
  refine (tokens_any s w hs).mono ?_
  rintro e w1 ⟨hb, v, rfl, hown⟩
  rw [HG.out] at hown ⊢
  obtain ⟨ao, c, hv, _⟩ := toks_read hown
  subst hv
  exact ⟨ao, c, rfl, hb, hown⟩

theorem later_alloc {w wx : World} {o : Obj} {a : Addr} {v : Value} (hb : Below (w.alloc o).heap.size (w.alloc o) wx) (h : w.cell? a = some v) : wx.cell? a = some v :=
  cell_later hb (cell_later ((Below.refl _ w).alloc (Nat.le_refl _) o) h)

theorem g1 : Hid (tokensG (⟨#[97, 95, 49, 32, 61, 32, 39, 98, 32, 59, 39, 124, 32, 35, 32, 120, 10, 59]⟩ : ByteArray).data.toList = (0, 0, [⟨1, [97, 95, 49], 0⟩, ⟨3, [61], 4⟩, ⟨2, [98, 32, 59], 6⟩, ⟨4, [124], 11⟩, ⟨5, [59], 17⟩])) := by show _ = _; rfl
theorem g2 : Hid (tokensG (⟨#[97, 32, 61, 32, 39, 98]⟩ : ByteArray).data.toList = (11, 4, [])) := by show _ = _; rfl
theorem g3 : Hid (tokensG (⟨#[97, 32, 63]⟩ : ByteArray).data.toList = (11, 2, [])) := by show _ = _; rfl
theorem n1 : Lx.isName [97, 49] = true := by rfl
theorem n2 : Lx.isName [49, 97] = false := by rfl
theorem n3 : Lx.isTerm [43] = true := by rfl
theorem n4 : Lx.isTerm [39] = false := by rfl

set_option maxHeartbeats 1600000 in
theorem wakes_any (w : World) : Calls Try.prog 9 #[] w fun e w' => e = .returned (.bool true) ∧ Below w.heap.size w w' := by
  go_enter Try.func9, Try.ntmps9
  go_wp2_with fail
  refine (tokens_is ⟨#[97, 95, 49, 32, 61, 32, 39, 98, 32, 59, 39, 124, 32, 35, 32, 120, 10, 59]⟩ _ _ _ _ (by decide) g1).mono ?_
  rintro e w1 ⟨ao, c, rfl, hb1, hown⟩
  obtain ⟨ao', c', hv, hr⟩ := toks_read hown
  simp only [Value.slice.injEq, true_and] at hv
  obtain ⟨rfl, rfl⟩ := hv
  obtain ⟨g, rfl, hg0, hg1, a0, a1, a2⟩ := hr 0 (by decide)
  obtain ⟨g', hg', _, _, b0, b1, b2⟩ := hr 2 (by decide)
  cases hg'
  obtain ⟨g', hg', _, _, _, _, c2⟩ := hr 4 (by decide)
  cases hg'
  clear hr hown
  simp at a0 a1 a2 b0 b1 b2 c2
  go_wp2_with fail
  refine (tokens_is ⟨#[97, 32, 61, 32, 39, 98]⟩ _ _ _ _ (by decide) g2).mono ?_
  rintro e w2 ⟨ao2, d2, rfl, hb2, _⟩
  have hz2 : w1.heap.size < w2.heap.size := by have := hb2.size; simp at this; omega
  have e0 : w2.cell? ⟨w1.heap.size, 0, none⟩ = some (.int .i64 0) := (hb2.cell (by simp)).trans (by simp [go_sem])
  replace a0 := later_alloc hb2 a0
  replace a1 := later_alloc hb2 a1
  replace a2 := later_alloc hb2 a2
  replace b0 := later_alloc hb2 b0
  replace b1 := later_alloc hb2 b1
  replace b2 := later_alloc hb2 b2
  replace c2 := later_alloc hb2 c2
  have hB2 : Below w.heap.size w w2 := hb1.trans (((Below.refl _ w1).alloc (Nat.le_refl _) _).trans (hb2.mono (by simp)) |>.mono hb1.size)
  go_wp2_with fail
  refine (tokens_is ⟨#[97, 32, 63]⟩ _ _ _ _ (by decide) g3).mono ?_
  rintro e w3 ⟨ao3, d3, rfl, hb3, _⟩
  have hz3 : w2.heap.size < w3.heap.size := by have := hb3.size; simp at this; omega
  have e2 : w3.cell? ⟨w2.heap.size, 0, none⟩ = some (.int .i64 11) := (hb3.cell (by simp)).trans (by simp [go_sem])
  have e3 : w3.cell? ⟨w2.heap.size, 1, none⟩ = some (.int .i64 4) := (hb3.cell (by simp)).trans (by simp [go_sem])
  replace e0 := later_alloc hb3 e0
  replace a0 := later_alloc hb3 a0
  replace a1 := later_alloc hb3 a1
  replace a2 := later_alloc hb3 a2
  replace b0 := later_alloc hb3 b0
  replace b1 := later_alloc hb3 b1
  replace b2 := later_alloc hb3 b2
  replace c2 := later_alloc hb3 c2
  have hB3 : Below w.heap.size w w3 := hB2.trans (((Below.refl _ w2).alloc (Nat.le_refl _) _).trans (hb3.mono (by simp)) |>.mono hB2.size)
  have x1 : w1.heap.size < w3.heap.size := by omega
  have x2 : g < w3.heap.size := by omega
  have q1 := n1
  have q2 := n2
  have q3 := n3
  have q4 := n4
  clear hb2 hb3 hb1 hB2
  go_wp2_with (first | (go_at_call 13; refine (isName_any _ _ (by decide)).mono ?_; rintro e w4 ⟨rfl, rfl⟩) | (go_at_call 15; refine (isTerm_any _ _ (by decide)).mono ?_; rintro e w4 ⟨rfl, rfl⟩))
  go_ret
  exact ⟨rfl, hB3.alloc hB3.size _⟩
end Go.Proofs.Ytpeleedpbdnhmaa
