/-
  Layer 4 (show): a symbol as text, a rule as text.
-/
import Derived.Test.YtnphfhoknnnciaaGrGood6
namespace Go.Proofs.Ytnphfhoknnnciaa.Sh
open Go.Proofs.Ytnphfhoknnnciaa.Gr

/-- a symbol as text: a terminal in quotes -/
def symT (g : Gm) (s : Int) : ByteArray := if isT g s then ⟨#[39]⟩ ++ (name g s).1 ++ ⟨#[39]⟩ else (name g s).1
/-- symbols, a blank ahead of each -/
def symsT (g : Gm) (acc : ByteArray) (ss : List Int) : ByteArray := ss.foldl (fun a s => a ++ (⟨#[32]⟩ ++ symT g s)) acc
/-- a rule as text -/
def ruleT (g : Gm) (r : Rl) : ByteArray := symsT g (symT g r.1 ++ ⟨#[32, 61]⟩) r.2

theorem size_app (a b : ByteArray) : (a ++ b).size = a.size + b.size := by simp
theorem symT_size (g : Gm) (s : Int) (h : (name g s).1.size ≤ 4000) : (symT g s).size ≤ 4002 := by
  unfold symT
  split
  · rw [size_app, size_app, show (⟨#[39]⟩ : ByteArray).size = 1 from rfl]; omega
  · omega
theorem symsT_step (g : Gm) (acc : ByteArray) (ss : List Int) (k : Nat) (h : k < ss.length) : symsT g acc (ss.take (k + 1)) = symsT g acc (ss.take k) ++ (⟨#[32]⟩ ++ symT g ss[k]) := by
  unfold symsT; rw [List.take_add_one, List.getElem?_eq_getElem h, List.foldl_append]; rfl
theorem symsT_size (g : Gm) (acc : ByteArray) (ss : List Int) (h : ∀ s, (name g s).1.size ≤ 4000) (k : Nat) : (symsT g acc (ss.take k)).size ≤ acc.size + k * 4003 := by
  induction k with
  | zero => simp [symsT]
  | succ k ih =>
    by_cases hk : k < ss.length
    · rw [symsT_step _ _ _ _ hk, size_app, size_app, show (⟨#[32]⟩ : ByteArray).size = 1 from rfl]
      have := symT_size g ss[k] (h _)
      omega
    · have e1 : ss.take (k + 1) = ss := List.take_of_length_le (by omega)
      have e2 : ss.take k = ss := List.take_of_length_le (by omega)
      rw [e1]; rw [e2] at ih
      exact Nat.le_trans ih (Nat.add_le_add_left (Nat.mul_le_mul_right _ (Nat.le_succ k)) _)
end Go.Proofs.Ytnphfhoknnnciaa.Sh

namespace Go.Proofs.Ytnphfhoknnnciaa
open Go.RowKit

theorem ret_str {a b : ByteArray} (h : a = b) : Ending.returned (.string a) = .returned (.string b) := by rw [h]

set_option maxHeartbeats 1600000 in
theorem symbolText_is (g : Gr.Gm) (A : GA) (s : Int) (w : World) (h1 : g.terms.length ≤ 4000 ∧ g.names.length ≤ 4000) (ht : ∀ x ∈ g.terms, x.size ≤ 4000) (hn : ∀ x ∈ g.names, x.size ≤ 4000) (hsz : (Gr.name g s).1.size ≤ 4000) (h : GmAt w.heap.size w g A) :
    Calls Try.prog 89 #[.agg (gmCells g A), .int .i64 s] w fun e w' => e = .returned (.string (Sh.symT g s)) ∧ Below w.heap.size w w' := by
  obtain ⟨ta, tc, na, nc, ra, rc⟩ := A
  obtain ⟨x, ok, hx⟩ : ∃ x ok, Gr.name g s = (x, ok) := ⟨_, _, rfl⟩
  have HX : Hid (Gr.name g s = (x, ok)) := hx
  have hxs : x.size ≤ 4000 := by rw [hx] at hsz; exact hsz
  have HNM : Hid (∀ (W : World), Below w.heap.size w W → _) := fun W hW => name_is x ok g ⟨ta, tc, na, nc, ra, rc⟩ s W h1 (fun y hy => by have := ht y hy; omega) (fun y hy => by have := hn y hy; omega) (h.later hW).size hx
  have HTM : Hid (∀ (r : Bool) (W : World), Gr.isT g s = r → _) := fun r W hr => term_is r g ⟨ta, tc, na, nc, ra, rc⟩ s W hr
  simp only [gmCells] at HNM HTM ⊢
  have hbW : Hid (Below w.heap.size w (w.alloc (Obj.cells #[.slice ta g.terms.length tc, .slice na g.names.length nc, .slice ra g.rules.length rc] 25))) := (Below.refl _ w).alloc (Nat.le_refl _) _
  have b0 : Hid ((w.alloc (Obj.cells #[.slice ta g.terms.length tc, .slice na g.names.length nc, .slice ra g.rules.length rc] 25)).heap[w.heap.size]? = some (.cells #[.slice ta g.terms.length tc, .slice na g.names.length nc, .slice ra g.rules.length rc] 25 (0, 0))) := heap_alloc_new w _
  have hWs : Hid ((w.alloc (Obj.cells #[.slice ta g.terms.length tc, .slice na g.names.length nc, .slice ra g.rules.length rc] 25)).heap.size = w.heap.size + 1) := by show _ = _; simp
  clear h hx h1 hsz ht hn
  go_enter Try.func89, Try.ntmps89
  go_wp2_with fail
  generalize (w.alloc (Obj.cells #[.slice ta g.terms.length tc, .slice na g.names.length nc, .slice ra g.rules.length rc] 25)) = W at *
  refine (HNM.out _ hbW.out).mono ?_
  rintro e w1 ⟨rfl, hb1⟩
  have HB1 : Hid (Below w.heap.size w w1) := hbW.out.trans (hb1.mono hbW.out.size)
  obtain ⟨g0, g1, g2, _⟩ := cells_three_z ((hb1.block _ (by rw [hWs.out]; omega)).trans b0.out)
  cases hT : Gr.isT g s
  · have HT1 : Hid (∀ W : World, _) := fun W => HTM.out false W hT
    have R : Hid (Sh.symT g s = x) := by show _ = _; unfold Sh.symT; rw [hT, HX.out]; rfl
    clear HTM HNM hT
    go_wp2_with (go_at_call 18; fail)
    refine (HT1.out _).mono ?_
    rintro e w2 ⟨rfl, hb2⟩
    go_wp2_with fail
    go_ret
    exact ⟨ret_str R.out.symm, HB1.out.trans (hb2.mono HB1.out.size)⟩
  · have HT1 : Hid (∀ W : World, _) := fun W => HTM.out true W hT
    have R : Hid (Sh.symT g s = ⟨#[39]⟩ ++ x ++ ⟨#[39]⟩) := by show _ = _; unfold Sh.symT; rw [hT, HX.out]; rfl
    clear HTM HNM hT
    go_wp2_with (go_at_call 18; fail)
    refine (HT1.out _).mono ?_
    rintro e w2 ⟨rfl, hb2⟩
    go_wp2_with fail
    go_ret
    exact ⟨ret_str R.out.symm, HB1.out.trans (hb2.mono HB1.out.size)⟩

set_option maxRecDepth 100000 in
set_option maxHeartbeats 3200000 in
theorem ruleText_is (g : Gr.Gm) (A : GA) (yl : Int) (yr : List Int) (yo : Option Addr) (yc : Nat) (w : World) (h1 : g.terms.length ≤ 4000 ∧ g.names.length ≤ 4000) (ht : ∀ x ∈ g.terms, x.size ≤ 4000) (hn : ∀ x ∈ g.names, x.size ≤ 4000) (hsz : ∀ s, (Gr.name g s).1.size ≤ 4000) (hl : yr.length ≤ 4000) (h : GmAt w.heap.size w g A) (hy : IntsAt w.heap.size w yo yr) :
    Calls Try.prog 72 #[.agg (gmCells g A), .agg #[.int .i64 yl, .slice yo yr.length yc]] w fun e w' => e = .returned (.string (Sh.ruleT g (yl, yr))) ∧ Below w.heap.size w w' := by
  obtain ⟨ta, tc, na, nc, ra, rc⟩ := A
  have HY : Hid (IntsAt w.heap.size w yo yr) := hy
  have HSY : Hid (∀ (s : Int) (W : World), Below w.heap.size w W → Calls Try.prog 89 #[.agg (gmCells g ⟨ta, tc, na, nc, ra, rc⟩), .int .i64 s] W fun e w' => e = .returned (.string (Sh.symT g s)) ∧ Below W.heap.size W w') :=
    fun s W hW => symbolText_is g _ s W h1 ht hn (hsz s) (h.later hW).size
  have HSZ : Hid (∀ s, (Sh.symT g s).size ≤ 4002) := fun s => Sh.symT_size g s (hsz s)
  have HSS : Hid (∀ k, (Sh.symsT g (Sh.symT g yl ++ ⟨#[32, 61]⟩) (yr.take k)).size ≤ (Sh.symT g yl ++ ⟨#[32, 61]⟩).size + k * 4003) := Sh.symsT_size g _ yr hsz
  simp only [gmCells] at HSY ⊢
  have hbW : Hid (Below w.heap.size w ((w.alloc (Obj.cells #[.slice ta g.terms.length tc, .slice na g.names.length nc, .slice ra g.rules.length rc] 25)).alloc (Obj.cells #[.int .i64 yl, .slice yo yr.length yc] 54))) := ((Below.refl _ w).alloc (Nat.le_refl _) _).alloc (by simp) _
  have b0 : Hid (((w.alloc (Obj.cells #[.slice ta g.terms.length tc, .slice na g.names.length nc, .slice ra g.rules.length rc] 25)).alloc (Obj.cells #[.int .i64 yl, .slice yo yr.length yc] 54)).heap[w.heap.size]? = some (.cells #[.slice ta g.terms.length tc, .slice na g.names.length nc, .slice ra g.rules.length rc] 25 (0, 0))) := by
    show _ = _; rw [Below.heap_alloc _ _ _ (by simp)]; exact heap_alloc_new w _
  have b1 : Hid (((w.alloc (Obj.cells #[.slice ta g.terms.length tc, .slice na g.names.length nc, .slice ra g.rules.length rc] 25)).alloc (Obj.cells #[.int .i64 yl, .slice yo yr.length yc] 54)).heap[w.heap.size + 1]? = some (.cells #[.int .i64 yl, .slice yo yr.length yc] 54 (0, 0))) := by
    show _ = _
    have := heap_alloc_new (w.alloc (Obj.cells #[.slice ta g.terms.length tc, .slice na g.names.length nc, .slice ra g.rules.length rc] 25)) (Obj.cells #[.int .i64 yl, .slice yo yr.length yc] 54)
    simpa using this
  have hWs : Hid (((w.alloc (Obj.cells #[.slice ta g.terms.length tc, .slice na g.names.length nc, .slice ra g.rules.length rc] 25)).alloc (Obj.cells #[.int .i64 yl, .slice yo yr.length yc] 54)).heap.size = w.heap.size + 2) := by show _ = _; simp
  clear h hy h1 ht hn hsz
  have HL0 : Hid ((Sh.symT g yl).size ≤ 4002) := HSZ.out yl
  have HLs : Hid ((Sh.symT g yl ++ ⟨#[32, 61]⟩ : ByteArray).size = (Sh.symT g yl).size + 2) := by show _ = _; rw [Sh.size_app]; rfl
  have HY0 : Hid (∀ (W : World), Below w.heap.size w W → _) := fun W hW => HSY.out yl W hW
  have HRT : Hid (Sh.ruleT g (yl, yr) = Sh.symsT g (Sh.symT g yl ++ ⟨#[32, 61]⟩) yr) := rfl
  have hl0 := HL0.out
  generalize Sh.symT g yl = lt0 at *
  go_enter Try.func72, Try.ntmps72
  go_wp2_with fail
  generalize ((w.alloc (Obj.cells #[.slice ta g.terms.length tc, .slice na g.names.length nc, .slice ra g.rules.length rc] 25)).alloc (Obj.cells #[.int .i64 yl, .slice yo yr.length yc] 54)) = W at *
  refine (HY0.out _ hbW.out).mono ?_
  rintro e w1 ⟨rfl, hb1⟩
  have HB1 : Hid (Below W.heap.size W w1) := hb1
  obtain ⟨y0, y1, _, _⟩ := cells_two_z ((hb1.block _ (by rw [hWs.out]; omega)).trans b1.out)
  clear hb1 HY0
  go_wp2_with fail
  clear y0 y1
  have hls := HLs.out
  generalize (lt0 ++ ⟨#[32, 61]⟩ : ByteArray) = st at *
  go_loopw [5, 16] (fun sv iv wr => ∃ (k : Nat), k ≤ yr.length ∧ iv = .int .i64 k ∧ sv = .string (Sh.symsT g st (yr.take k)) ∧ Hid (Below W.heap.size W wr)) (fun _ iv _ => yr.length - (intOf iv).toNat)
  case atStart => exact ⟨0, Nat.zero_le _, rfl, rfl, HB1⟩
  case round =>
    obtain ⟨k, hk, rfl, rfl, hb⟩ := hrel
    clear HB1
    have HBr : Hid (Below w.heap.size w wr) := hbW.out.trans (hb.out.mono hbW.out.size)
    by_cases hlt : k < yr.length
    · have hki : (k : Int) < (yr.length : Int) := by omega
      obtain ⟨sb, sq, rfl, _, _, s0⟩ := HY.out.get k hlt
      replace s0 := cell_later HBr.out s0
      obtain ⟨g0, g1, g2, _⟩ := cells_three_z ((hb.out.block _ (by rw [hWs.out]; omega)).trans b0.out)
      have HST : Hid (Sh.symsT g st (yr.take (k + 1)) = Sh.symsT g st (yr.take k) ++ (⟨#[32]⟩ ++ Sh.symT g yr[k])) := Sh.symsT_step _ _ _ _ hlt
      have hs1 := HSS.out k
      have hs2 := HSZ.out yr[k]
      have HS1 : Hid (∀ (W : World), Below w.heap.size w W → _) := fun W hW => HSY.out yr[k] W hW
      generalize yr[k] = sv at *
      generalize Sh.symsT g st (yr.take k) = acc at *
      generalize Sh.symT g sv = tx at *
      go_wp2_with (go_at_call 89; fail)
      refine (HS1.out _ HBr.out).mono ?_
      rintro e w2 ⟨rfl, hb2⟩
      go_wp2_with fail
      go_roundw
      case rel => exact ⟨k + 1, by omega, by go_num, by rw [HST.out], hb.out.trans (hb2.mono hb.out.size)⟩
      case measure => simp [intOf]; omega
    · have R : Hid (Sh.symsT g st (yr.take k) = Sh.ruleT g (yl, yr)) := by show _ = _; rw [List.take_of_length_le (by omega)]; exact HRT.out.symm
      go_wp2_with fail
      go_ret
      exact ⟨ret_str R.out, HBr.out⟩
end Go.Proofs.Ytnphfhoknnnciaa
