/-
  Layer 4 (show): the text of any grammar, or why there is none; Rule and Text.
-/
import Derived.Test.YtnphfhoknnnciaaShRule
import Derived.Test.YtnphfhoknnnciaaShBuild
namespace Go.Proofs.Ytnphfhoknnnciaa.Sh
open Go.Proofs.Ytnphfhoknnnciaa.Gr
/-- a line's end -/
def endT : ByteArray := ⟨#[32, 59, 10]⟩
/-- the lines of rules -/
def allT (g : Gm) (rs : List Rl) : ByteArray := rs.foldl (fun s r => s ++ (ruleT g r ++ endT)) ⟨#[]⟩
/-- a grammar's text: an error's number, the text -/
def text (g : Gm) : Int × ByteArray := if good g = false then (16, ⟨#[]⟩) else if (allT g g.rules).size ≤ 2000 then (0, allT g g.rules) else (14, ⟨#[]⟩)

theorem allT_step (g : Gm) (rs : List Rl) (k : Nat) (h : k < rs.length) : allT g (rs.take (k + 1)) = allT g (rs.take k) ++ (ruleT g rs[k] ++ endT) := take_step _ _ _ _ h

theorem ruleT_size {g : Gm} (h : good g = true) {r : Rl} (h8 : r.2.length ≤ 8) : (ruleT g r).size ≤ 40000 := by
  have hs : ∀ s, (name g s).1.size ≤ 4000 := fun s => by have := (name_size h s).1; omega
  have h1 := symT_size g r.1 (hs _)
  have h2 := symsT_size g (symT g r.1 ++ ⟨#[32, 61]⟩) r.2 hs r.2.length
  rw [List.take_length, size_app] at h2
  have h3 : (⟨#[32, 61]⟩ : ByteArray).size = 2 := rfl
  have : ruleT g r = symsT g (symT g r.1 ++ ⟨#[32, 61]⟩) r.2 := rfl
  rw [this]
  omega

theorem allT_size {g : Gm} (h : good g = true) (rs : List Rl) (h8 : ∀ r ∈ rs, r.2.length ≤ 8) (k : Nat) : (allT g (rs.take k)).size ≤ k * 40003 := by
  induction k with
  | zero => simp [allT]; rfl
  | succ k ih =>
    by_cases hk : k < rs.length
    · rw [allT_step g rs k hk, size_app, size_app]
      have h1 := ruleT_size h (h8 _ (List.getElem_mem hk))
      have h2 : endT.size = 3 := rfl
      omega
    · have e1 : rs.take (k + 1) = rs := List.take_of_length_le (by omega)
      have e2 : rs.take k = rs := List.take_of_length_le (by omega)
      rw [e1]; rw [e2] at ih
      exact Nat.le_trans ih (Nat.mul_le_mul_right _ (Nat.le_succ k))

theorem cells_app (a b : ByteArray) : Lib.byteCells a.data.toList ++ Lib.strCells b = Lib.byteCells (a ++ b).data.toList := by
  unfold Lib.byteCells Lib.strCells
  rw [← List.map_append]
  congr 1
end Go.Proofs.Ytnphfhoknnnciaa.Sh

namespace Go.Proofs.Ytnphfhoknnnciaa
open Go.RowKit

theorem builder_later {T e : TypeId} {B b : Nat} {bs : List Value} {w w' : World} (h : Lib.IsBuilder T e B b bs w) (hb : Below w.heap.size w w') : Lib.IsBuilder T e B b bs w' := by
  have go : ∀ p, Lib.BuilderAt T e B b p bs w → Lib.BuilderAt T e B b p bs w' := fun p ⟨h1, v, h2, h3, h4⟩ =>
    ⟨h1, v, by rw [hb.block _ (Array.getElem?_eq_some_iff.1 h2).1]; exact h2, ownsRow_below h3 hb, h4⟩
  exact h.imp (go _) (go _)

set_option maxRecDepth 100000 in
set_option maxHeartbeats 3200000 in
theorem textOf_is (g : Gr.Gm) (A : GA) (n : Int) (s : ByteArray) (w : World) (hm : ∀ x ∈ g.rules, x.2.length ≤ maxLen) (h : GmAt w.heap.size w g A) (hr : Sh.text g = (n, s)) :
    Calls Try.prog 47 #[.agg (gmCells g A)] w fun e w' => Below w.heap.size w w' ∧ ((e = .returned (.string s) ∧ n = 0) ∨ (e = thrownE n ∧ s = ⟨#[]⟩)) := by
  obtain ⟨ta, tc, na, nc, ra, rc⟩ := A
  have HG : Hid (GmAt w.heap.size w g ⟨ta, tc, na, nc, ra, rc⟩) := h
  have hbW : Hid (Below w.heap.size w (w.alloc (Obj.cells #[.slice ta g.terms.length tc, .slice na g.names.length nc, .slice ra g.rules.length rc] 25))) := (Below.refl _ w).alloc (Nat.le_refl _) _
  have b0 : Hid ((w.alloc (Obj.cells #[.slice ta g.terms.length tc, .slice na g.names.length nc, .slice ra g.rules.length rc] 25)).heap[w.heap.size]? = some (.cells #[.slice ta g.terms.length tc, .slice na g.names.length nc, .slice ra g.rules.length rc] 25 (0, 0))) := heap_alloc_new w _
  have hWs : Hid ((w.alloc (Obj.cells #[.slice ta g.terms.length tc, .slice na g.names.length nc, .slice ra g.rules.length rc] 25)).heap.size = w.heap.size + 1) := by show _ = _; simp
  have HGD : Hid (∀ (r : Bool) (W : World), Below w.heap.size w W → Gr.good g = r → Calls Try.prog 16 #[.agg (gmCells g ⟨ta, tc, na, nc, ra, rc⟩)] W fun e w' => e = .returned (.bool r) ∧ Below W.heap.size W w') := fun r W hW hl => good_is r g _ W hm (h.later hW).size hl
  have HR : Hid (Sh.text g = (n, s)) := hr
  cases hg : Gr.good g
  · have E : Hid (n = 16 ∧ s = ⟨#[]⟩) := by
      have := HR.out
      unfold Sh.text at this
      rw [if_pos hg] at this
      cases this; exact ⟨rfl, rfl⟩
    obtain ⟨rfl, rfl⟩ := E.out
    have HG1 : Hid (∀ (W : World), Below w.heap.size w W → _) := fun W hW => HGD.out false W hW hg
    simp only [gmCells] at HG1 ⊢
    clear h hr hm HGD hg E
    go_enter Try.func47, Try.ntmps47
    go_wp2_with fail
    generalize (w.alloc (Obj.cells #[.slice ta g.terms.length tc, .slice na g.names.length nc, .slice ra g.rules.length rc] 25)) = W at *
    refine (HG1.out _ hbW.out).mono ?_
    rintro e w1 ⟨rfl, hb1⟩
    go_wp2_with (go_at_call 70; refine (throwUnless_no _ _).mono ?_; rintro e w2 ⟨rfl, rfl⟩; unfold thrownE)
    exact ⟨rfl, hbW.out.trans (hb1.mono hbW.out.size), .inr ⟨rfl, by trivial⟩⟩
  · have HG1 : Hid (∀ (W : World), Below w.heap.size w W → _) := fun W hW => HGD.out true W hW hg
    have hsz := Sh.name_size hg
    have hs0 := of_decide_eq_true (Gr.good_parts hg).1
    have HRT : Hid (∀ (yl : Int) (yr : List Int) (yo : Option Addr) (yc : Nat) (W : World), Below w.heap.size w W → yr.length ≤ 4000 → IntsAt w.heap.size w yo yr → Calls Try.prog 72 #[.agg (gmCells g ⟨ta, tc, na, nc, ra, rc⟩), .agg #[.int .i64 yl, .slice yo yr.length yc]] W fun e w' => e = .returned (.string (Sh.ruleT g (yl, yr))) ∧ Below W.heap.size W w') :=
      fun yl yr yo yc W hW h4 hy => ruleText_is g _ yl yr yo yc W ⟨by omega, by omega⟩ (fun x hx => by have := (hsz 0).2.1 x hx; omega) (fun x hx => by have := (hsz 0).2.2 x hx; omega) (fun q => by have := (hsz q).1; omega) h4 (h.later hW).size (hy.later hW).size
    have H8 : Hid (∀ x ∈ g.rules, x.2.length ≤ 8) := fits_right (Gr.good_parts hg).2.2.2.1
    have HSZ : Hid (∀ k, (Sh.allT g (g.rules.take k)).size ≤ k * 40003) := Sh.allT_size hg g.rules H8.out
    have HRZ : Hid (∀ r ∈ g.rules, (Sh.ruleT g r).size ≤ 40000) := fun r hr => Sh.ruleT_size hg (H8.out r hr)
    have HST : Hid (∀ k (h : k < g.rules.length), Sh.allT g (g.rules.take (k + 1)) = Sh.allT g (g.rules.take k) ++ (Sh.ruleT g g.rules[k] ++ Sh.endT)) := fun k h => Sh.allT_step g g.rules k h
    have HTX : Hid ((if (Sh.allT g g.rules).size ≤ 2000 then (0, Sh.allT g g.rules) else (14, ⟨#[]⟩) : Int × ByteArray) = (n, s)) := by
      have := HR.out; unfold Sh.text at this; rw [if_neg (by rw [hg]; simp)] at this; exact this
    have hl60 : g.rules.length ≤ 60 := by omega
    simp only [gmCells] at HG1 HRT ⊢
    clear h hr hm HGD HR hsz
    go_enter Try.func47, Try.ntmps47
    go_wp2_with fail
    generalize (w.alloc (Obj.cells #[.slice ta g.terms.length tc, .slice na g.names.length nc, .slice ra g.rules.length rc] 25)) = W at *
    refine (HG1.out _ hbW.out).mono ?_
    rintro e w1 ⟨rfl, hb1⟩
    have k1 : Hid (w1.heap[w.heap.size]? = some (.cells #[.slice ta g.terms.length tc, .slice na g.names.length nc, .slice ra g.rules.length rc] 25 (0, 0))) := (hb1.block _ (by rw [hWs.out]; omega)).trans b0.out
    have hz1 : w.heap.size < w1.heap.size := (Array.getElem?_eq_some_iff.1 k1.out).1
    have HB1 : Hid (Below w.heap.size w w1) := hbW.out.trans (hb1.mono hbW.out.size)
    clear hb1 HG1 b0 hWs hbW hg hs0
    obtain ⟨g0, g1, g2, _⟩ := cells_three_z k1.out
    go_wp2_with (go_at_call 70; refine (throwUnless_ok _ _).mono ?_; rintro e w2 ⟨rfl, e2⟩; subst w2)
    clear g0 g1 g2
    have HI0 : Hid (Lib.IsBuilder 104 5 w1.heap.size w1.heap.size (Lib.byteCells (Sh.allT g (g.rules.take 0)).data.toList) (w1.alloc (Obj.cells #[.pointer none, .slice none 0 0] 104))) := Lib.fresh_isBuilder 104 5 w1
    have HB0 : Hid (Below w1.heap.size w1 (w1.alloc (Obj.cells #[.pointer none, .slice none 0 0] 104))) := (Below.refl _ w1).alloc (Nat.le_refl _) _
    go_loopw [12] (fun i wr => ∃ k : Nat, k ≤ g.rules.length ∧ i = .int .i64 k ∧ Hid (Lib.IsBuilder 104 5 w1.heap.size w1.heap.size (Lib.byteCells (Sh.allT g (g.rules.take k)).data.toList) wr) ∧ Hid (Below w1.heap.size w1 wr)) (fun i _ => g.rules.length - (intOf i).toNat)
    case atStart => exact ⟨0, Nat.zero_le _, rfl, HI0, HB0⟩
    case round =>
      obtain ⟨k, hk, rfl, hI, hb⟩ := hrel
      clear HI0 HB0
      have HBr : Hid (Below w.heap.size w wr) := HB1.out.trans (hb.out.mono HB1.out.size)
      obtain ⟨g0, g1, g2, _⟩ := cells_three_z ((hb.out.block _ hz1).trans k1.out)
      have hzr := hb.out.size
      have hszk := HSZ.out k
      have hzw : w.heap.size < wr.heap.size := by omega
      by_cases hlt : k < g.rules.length
      · have hki : (k : Int) < (g.rules.length : Int) := by omega
        have STP := HST.out k hlt
        have hrz := HRZ.out _ (List.getElem_mem hlt)
        have h8k := H8.out _ (List.getElem_mem hlt)
        obtain ⟨rb, ro, yo, yc, hra, _, _, y0, y1, yI, _⟩ := HG.out.rules k hlt
        simp only at hra
        subst hra
        have HY : Hid (IntsAt w.heap.size w yo g.rules[k].2) := yI
        have HSP : Hid _ := STP
        clear yI STP
        generalize g.rules[k] = y at *
        obtain ⟨yl, yr⟩ := y
        simp only at y0 y1 HY h8k HSP hrz
        replace y0 := cell_later HBr.out y0
        replace y1 := cell_later HBr.out y1
        have HR1 : Hid (∀ (W : World), Below w.heap.size w W → _) := fun W hW => HRT.out yl yr yo yc W hW (by omega) HY.out
        have hb2 : Hid (Below wr.heap.size wr (wr.alloc (Obj.cells #[.int .i64 yl, .slice yo yr.length yc] 54))) := (Below.refl _ wr).alloc (Nat.le_refl _) _
        generalize Sh.allT g (g.rules.take k) = acc at *
        go_wp2_with (go_at_call 72; fail)
        refine (HR1.out _ (HBr.out.trans (hb2.out.mono HBr.out.size))).mono ?_
        rintro e w3 ⟨rfl, hb3⟩
        have hb23 : Hid (Below wr.heap.size wr w3) := hb2.out.trans (hb3.mono hb2.out.size)
        have hb13 : Hid (Below w1.heap.size w1 w3) := hb.out.trans (hb23.out.mono hb.out.size)
        have hI3 : Hid (Lib.IsBuilder 104 5 w1.heap.size w1.heap.size (Lib.byteCells acc.data.toList) w3) := builder_later hI.out hb23.out
        have hz3 := hb13.out.size
        have hal : (Lib.byteCells acc.data.toList).length = acc.size := by rw [Lib.byteCells_length]; simp
        clear hb2 hb3 y0 y1 g0 g1 g2 hI HR1 HY
        generalize Sh.ruleT g (yl, yr) = rt at *
        go_wp2_with (go_at_call 71; fail)
        refine (bwrite w1.heap.size w1.heap.size (Lib.byteCells acc.data.toList) rt w3 hI3.out (by rw [hal]; omega) hz3).mono ?_
        rintro e w4 ⟨rfl, hI4, hb4⟩
        rw [Sh.cells_app] at hI4
        have hb14 : Hid (Below w1.heap.size w1 w4) := hb13.out.trans hb4
        have hz4 := hb14.out.size
        have hI4' : Hid (Lib.IsBuilder 104 5 w1.heap.size w1.heap.size (Lib.byteCells (acc ++ rt).data.toList) w4) := .inr hI4
        have hal4 : (Lib.byteCells (acc ++ rt).data.toList).length = acc.size + rt.size := by rw [Lib.byteCells_length, ← Sh.size_app]; simp
        clear hb4 hI4 hI3 hb13 hb23
        go_wp2_with (go_at_call 71; fail)
        refine (bwrite w1.heap.size w1.heap.size (Lib.byteCells (acc ++ rt).data.toList) ⟨#[32, 59, 10]⟩ w4 hI4'.out (by rw [hal4]; show _ + 3 ≤ _; omega) hz4).mono ?_
        rintro e w5 ⟨rfl, hI5, hb5⟩
        rw [Sh.cells_app] at hI5
        have hb15 : Hid (Below w1.heap.size w1 w5) := hb14.out.trans hb5
        have hI5' : Hid (Lib.IsBuilder 104 5 w1.heap.size w1.heap.size (Lib.byteCells (acc ++ rt ++ ⟨#[32, 59, 10]⟩).data.toList) w5) := .inr hI5
        have HAS : Hid (Sh.allT g (g.rules.take (k + 1)) = acc ++ rt ++ ⟨#[32, 59, 10]⟩) := by show _ = _; rw [HSP.out, ByteArray.append_assoc]; rfl
        clear hb5 hI5 hI4' hb14
        go_wp2_with fail
        go_roundw
        case rel => exact ⟨k + 1, by omega, by go_num, by rw [HAS.out]; exact hI5', hb15⟩
        case measure => simp [intOf]; omega
      · have HK : Hid (g.rules.take k = g.rules) := by show _ = _; rw [List.take_of_length_le (by omega)]
        rw [HK.out] at hI hszk
        have hal : Hid ((Lib.byteCells (Sh.allT g g.rules).data.toList).length = (Sh.allT g g.rules).size) := by show _ = _; rw [Lib.byteCells_length]; simp
        have HLEN : Hid (Calls Try.prog 73 #[.pointer (some ⟨w1.heap.size, 0, none⟩)] wr fun e w' => e = .returned (.int .i64 (Sh.allT g g.rules).size) ∧ w' = wr) := by
          have := Try.Builder_Len w1.heap.size w1.heap.size _ wr hI.out
          rw [hal.out] at this
          exact this
        have HSTR : Hid (Calls Try.prog 74 #[.pointer (some ⟨w1.heap.size, 0, none⟩)] wr fun e w' => e = .returned (.string (Sh.allT g g.rules)) ∧ Below w1.heap.size wr w') := Try.Builder_String_any w1.heap.size w1.heap.size _ wr hI.out hb.out.size
        clear hI hal
        generalize Sh.allT g g.rules = tx at *
        go_wp2_with (go_at_call 73; fail)
        refine HLEN.out.mono ?_
        rintro e w2 ⟨rfl, e2⟩
        subst w2
        by_cases h2 : tx.size ≤ 2000
        · have h2i : (tx.size : Int) ≤ 2000 := by omega
          have HNS : Hid (n = 0 ∧ s = tx) := by
            have e := HTX.out
            rw [if_pos h2] at e
            cases e
            exact ⟨rfl, rfl⟩
          go_wp2_with (go_at_call 70; fail)
          refine (throwUnless_ok _ _).mono ?_
          rintro e w2 ⟨rfl, e2⟩
          subst w2
          go_wp2_with (go_at_call 74; fail)
          refine HSTR.out.mono ?_
          rintro e w6 ⟨rfl, hb6⟩
          go_wp2_with fail
          go_ret
          exact ⟨HB1.out.trans ((hb.out.trans hb6).mono HB1.out.size), .inl ⟨by rw [HNS.out.2]; rfl, HNS.out.1⟩⟩
        · have h2i : decide ((tx.size : Int) ≤ 2000) = false := decide_eq_false (by omega)
          have HNS : Hid (n = 14 ∧ s = ⟨#[]⟩) := by
            have e := HTX.out
            rw [if_neg h2] at e
            cases e
            exact ⟨rfl, rfl⟩
          go_wp2_with (go_at_call 70; fail)
          refine (throwUnless_no _ _).mono ?_
          rintro e w2 ⟨rfl, e2⟩
          subst w2
          unfold thrownE
          go_wp2_with fail
          exact ⟨rfl, HBr.out, .inr ⟨by rw [HNS.out.1]; rfl, HNS.out.2⟩⟩

set_option maxRecDepth 100000 in
set_option maxHeartbeats 3200000 in
theorem showText_is (g : Gr.Gm) (A : GA) (n : Int) (s : ByteArray) (w : World) (hm : ∀ x ∈ g.rules, x.2.length ≤ maxLen) (h : GmAt w.heap.size w g A) (hr : Sh.text g = (n, s)) :
    Calls Try.prog 20 #[.agg (gmCells g A)] w fun e w' => e = .returned (.tuple #[.string s, .int .i64 n]) ∧ Below w.heap.size w w' := by
  have hmf : ∀ (fn : Fn) (first cap : Array Value) (w : World), (Instr.makeFunc fn first cap).run Try.prog w = .ok (.func fn first cap) w := fun _ _ _ _ => rfl
  obtain ⟨ta, tc, na, nc, ra, rc⟩ := A
  have hbW : Hid (Below w.heap.size w (w.alloc (Obj.cells #[.slice ta g.terms.length tc, .slice na g.names.length nc, .slice ra g.rules.length rc] 25))) := (Below.refl _ w).alloc (Nat.le_refl _) _
  have b0 : Hid ((w.alloc (Obj.cells #[.slice ta g.terms.length tc, .slice na g.names.length nc, .slice ra g.rules.length rc] 25)).heap[w.heap.size]? = some (.cells #[.slice ta g.terms.length tc, .slice na g.names.length nc, .slice ra g.rules.length rc] 25 (0, 0))) := heap_alloc_new w _
  have HTX : Hid (∀ W, Below w.heap.size w W → _) := fun W hW => textOf_is g ⟨ta, tc, na, nc, ra, rc⟩ n s W hm (h.later hW).size hr
  simp only [gmCells] at HTX ⊢
  clear h hm hr
  go_enter Try.func20, Try.ntmps20
  go_wp2_with (go_at_call 45; fail)
  generalize (w.alloc (Obj.cells #[.slice ta g.terms.length tc, .slice na g.names.length nc, .slice ra g.rules.length rc] 25)) = W at *
  refine (caught_text ⟨w.heap.size, 0, none⟩ n s W ?_).mono ?_
  · intro W2 hW2
    have hB2 : Hid (Below w.heap.size w W2) := hbW.out.trans (hW2.mono hbW.out.size)
    obtain ⟨g0, g1, g2, _⟩ := cells_three_z ((hW2.block _ (Array.getElem?_eq_some_iff.1 b0.out).1).trans b0.out)
    clear hW2
    go_enter Try.func46, Try.ntmps46
    go_wp2_with (go_at_call 47; fail)
    refine (HTX.out W2 hB2.out).mono ?_
    rintro e w3 ⟨hb3, hc⟩
    rcases hc with ⟨rfl, hn⟩ | ⟨rfl, hn⟩
    · go_wp2_with fail
      go_ret
      exact ⟨hb3, .inl ⟨rfl, hn⟩⟩
    · unfold thrownE
      go_wp2_with fail
      exact ⟨rfl, hb3, .inr ⟨rfl, hn⟩⟩
  · rintro e w2 ⟨rfl, hb2⟩
    go_wp2_with fail
    go_ret2
    exact ⟨rfl, hbW.out.trans (hb2.mono hbW.out.size)⟩

set_option maxRecDepth 100000 in
set_option maxHeartbeats 3200000 in
theorem showRule_is (g : Gr.Gm) (A : GA) (i n : Int) (s : ByteArray) (w : World) (hm : ∀ x ∈ g.rules, x.2.length ≤ maxLen) (h : GmAt w.heap.size w g A) (hr : Sh.line g i = (n, s)) :
    Calls Try.prog 22 #[.agg (gmCells g A), .int .i64 i] w fun e w' => e = .returned (.tuple #[.string s, .bool (n == 0)]) ∧ Below w.heap.size w w' := by
  have hmf : ∀ (fn : Fn) (first cap : Array Value) (w : World), (Instr.makeFunc fn first cap).run Try.prog w = .ok (.func fn first cap) w := fun _ _ _ _ => rfl
  obtain ⟨ta, tc, na, nc, ra, rc⟩ := A
  have hbW : Hid (Below w.heap.size w ((w.alloc (Obj.cells #[.slice ta g.terms.length tc, .slice na g.names.length nc, .slice ra g.rules.length rc] 25)).alloc (Obj.cells #[.int .i64 i] 3))) := ((Below.refl _ w).alloc (Nat.le_refl _) _).alloc (by simp) _
  have b0 : Hid (((w.alloc (Obj.cells #[.slice ta g.terms.length tc, .slice na g.names.length nc, .slice ra g.rules.length rc] 25)).alloc (Obj.cells #[.int .i64 i] 3)).heap[w.heap.size]? = some (.cells #[.slice ta g.terms.length tc, .slice na g.names.length nc, .slice ra g.rules.length rc] 25 (0, 0))) := by
    show _ = _; rw [Below.heap_alloc _ _ _ (by simp)]; exact heap_alloc_new w _
  have b1 : Hid (((w.alloc (Obj.cells #[.slice ta g.terms.length tc, .slice na g.names.length nc, .slice ra g.rules.length rc] 25)).alloc (Obj.cells #[.int .i64 i] 3)).heap[w.heap.size + 1]? = some (.cells #[.int .i64 i] 3 (0, 0))) := by
    show _ = _
    have := heap_alloc_new (w.alloc (Obj.cells #[.slice ta g.terms.length tc, .slice na g.names.length nc, .slice ra g.rules.length rc] 25)) (Obj.cells #[.int .i64 i] 3)
    simpa using this
  have HTX : Hid (∀ W, Below w.heap.size w W → _) := fun W hW => lineOf_is g ⟨ta, tc, na, nc, ra, rc⟩ i n s W hm (h.later hW).size hr
  simp only [gmCells] at HTX ⊢
  clear h hm hr
  go_enter Try.func22, Try.ntmps22
  go_wp2_with (go_at_call 45; fail)
  generalize ((w.alloc (Obj.cells #[.slice ta g.terms.length tc, .slice na g.names.length nc, .slice ra g.rules.length rc] 25)).alloc (Obj.cells #[.int .i64 i] 3)) = W at *
  refine (caught_rule ⟨w.heap.size, 0, none⟩ ⟨w.heap.size + 1, 0, none⟩ n s W ?_).mono ?_
  · intro W2 hW2
    have hB2 : Hid (Below w.heap.size w W2) := hbW.out.trans (hW2.mono hbW.out.size)
    obtain ⟨g0, g1, g2, _⟩ := cells_three_z ((hW2.block _ (Array.getElem?_eq_some_iff.1 b0.out).1).trans b0.out)
    have i0 : W2.cell? ⟨w.heap.size + 1, 0, none⟩ = some (.int .i64 i) := by simp [World.cell?, (hW2.block _ (Array.getElem?_eq_some_iff.1 b1.out).1).trans b1.out]
    clear hW2
    go_enter Try.func48, Try.ntmps48
    go_wp2_with (go_at_call 49; fail)
    refine (HTX.out W2 hB2.out).mono ?_
    rintro e w3 ⟨hb3, hc⟩
    rcases hc with ⟨rfl, hn⟩ | ⟨rfl, hn⟩
    · go_wp2_with fail
      go_ret
      exact ⟨hb3, .inl ⟨rfl, hn⟩⟩
    · unfold thrownE
      go_wp2_with fail
      exact ⟨rfl, hb3, .inr ⟨rfl, hn⟩⟩
  · rintro e w2 ⟨rfl, hb2⟩
    go_wp2_with fail
    go_ret2
    exact ⟨rfl, hbW.out.trans (hb2.mono hbW.out.size)⟩
end Go.Proofs.Ytnphfhoknnnciaa
