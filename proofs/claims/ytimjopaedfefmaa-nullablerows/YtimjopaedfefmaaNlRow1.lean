/-
  The law NullableRows, walked: it returns true, of every grammar and two rows of numbers.
-/
import Derived.Test.YtimjopaedfefmaaNlLaw
import Derived.Test.YtimjopaedfefmaaGrOwn
import Derived.Deep.RegionHeld3
namespace Go.Proofs.Ytimjopaedfefmaa
open Go.RowKit Go.Conc

theorem grownBy_refl (w : World) (r : Option Nat) : w.grownBy w r := ⟨rfl, rfl, rfl, Nat.le_refl _, fun _ _ _ => rfl⟩

/-- append of a row of numbers, whoever's, nil too, onto a row of one's own -/
theorem wp_append_ints {o : Oper} {a : Act} {w : World} {K : Act → World → Prop} {Q : Exit → Act → World → Prop} (s x : Operand) (ho : o.op = .call { callee := .builtin .append, args := #[s, x], argTypes := #[41, 41] })
    (base : Nat) (v : Value) (xs : List Int) (hs : a.eval s = v) (hown : OwnInts base w v xs) (ao : Option Addr) (c : Nat) (ys : List Int) (hx : a.eval x = .slice ao ys.length c) (hS : IntsAt w.heap.size w ao ys) (hl : xs.length + ys.length ≤ 2000) (hbase : base ≤ w.heap.size)
    (h : ∀ v' w', OwnInts base w' v' (xs ++ ys) → w.grownBy w' v.ownBlock → K (a.put o.dst v') w') : o.wp Try.prog a w K Q := by
  obtain ⟨iA, hi, hz0, hz1, hz2⟩ := info_parts Try.infoIn
  cases ao with
  | none =>
    have e : ys = [] := by
      cases ys with
      | nil => rfl
      | cons y r => obtain ⟨b, o, h, _⟩ := hS 0 (by simp); cases h
    subst e
    obtain ⟨so, sc, rfl, _, hle, _⟩ := OwnInts.read hown
    have hsrc : Src Try.prog iA.size 41 (.slice none 0 c) 0 [] w := Src.ofNil w Try.underlying41 c
    have hr := run_append_nothing (P := Try.prog) w 41 41 o.type 3 iA Try.underlying41 hi so xs.length sc hle (.slice none 0 c) hsrc
    unfold Oper.wp execOp
    simp only [ho, resolve, invoke, builtin, Sem.run_bind, Sem.run_pure, Result.andThen_ok, List.map_toArray, List.map_cons, List.map_nil, hs, hx, List.length_nil, hr]
    refine h _ _ ?_ (grownBy_refl _ _)
    rw [List.append_nil]; exact hown
  | some ad =>
    refine wp_append_own w s x 41 ho base 3 iA _ 1 8 Try.underlying41 hi hz0 hz1 hz2 rfl (by decide) v xs.length (xs.map (.int .i64)) hs hown ad ys.length c (ys.map (.int .i64)) hx (by simp) ?_ (fun u hu => by obtain ⟨y, _, rfl⟩ := List.mem_map.1 hu; rfl) (by unfold maxLen; omega) (by omega) hbase (fun v' w' h2 h3 _ => h v' w' ?_ h3)
    · intro j u hj
      have hl := (List.getElem?_eq_some_iff.1 hj).1
      obtain ⟨b, o, e, _, _, hc⟩ := hS j hl
      cases e
      rw [addr_off_add, hc]
      rw [List.getElem?_eq_getElem hl] at hj
      exact hj
    · unfold OwnInts; rw [List.length_append, List.map_append]; exact h2

theorem allIn_append (bs : List Bool) (xs ys : List Int) : Nl.allIn bs (xs ++ ys) = (Nl.allIn bs xs && Nl.allIn bs ys) := by simp [Nl.allIn]
theorem Nl.all_good {g : Gr.Gm} (hg : Gr.good g = true) (l : List Int) : Nl.all g l = Nl.allIn (Nl.of g) l := by simp [Nl.all, hg]
theorem map_step {f : Int → Int} (l : List Int) (k : Nat) (h : k < l.length) : (l.take (k + 1)).map f = (l.take k).map f ++ [f l[k]] := by
  rw [List.take_add_one, List.getElem?_eq_getElem h, List.map_append]; rfl
theorem OwnInts.cell {base g n c : Nat} {w : World} {xs : List Int} (h : OwnInts base w (.slice (some ⟨g, 0, none⟩) n c) xs) (k : Nat) (hk : k < xs.length) : w.cell? ⟨g, k, none⟩ = some (.int .i64 xs[k]) := by
  have := World.ownsRow.cells h (g := g) rfl k (.int .i64 xs[k]) (by simp [hk])
  rw [addr_zero_add] at this; exact this
theorem u8_lt6 {x : Int} (h : (Lit.int .u8 x).wf = true) : 0 ≤ x ∧ x < 256 := by
  have h0 : decide (IntKind.u8.min ≤ x) && decide (x ≤ IntKind.u8.max) := h
  rw [Bool.and_eq_true, decide_eq_true_eq, decide_eq_true_eq, show IntKind.u8.min = 0 from rfl, show IntKind.u8.max = 255 from rfl] at h0
  omega

set_option maxRecDepth 100000 in
set_option maxHeartbeats 3200000 in
theorem nullableRows_out (g : Gr.Gm) (A : GA) (ao bo : Option Addr) (c d : Nat) (l m : List Int) (w : World) (h : GmAt w.heap.size w g A) (hm : ∀ r ∈ g.rules, r.2.length ≤ maxLen) (hl : Gr.large g = true ∨ Gr.large g = false ∧ (Gr.good g = false ∨ Gr.good g = true ∧ (50 < l.length ∨ l.length ≤ 50 ∧ 50 < m.length))) :
    Calls Try.prog 7 #[.agg (gmCells g A), .slice ao l.length c, .slice bo m.length d] w fun e w' => e = .returned (.bool true) ∧ Below w.heap.size w w' := by
  obtain ⟨ta, tc, na, nc, ra, rc⟩ := A
  have hbW : Hid (Below w.heap.size w (w.alloc (Obj.cells #[.slice ta g.terms.length tc, .slice na g.names.length nc, .slice ra g.rules.length rc] 26))) := (Below.refl _ w).alloc (Nat.le_refl _) _
  have b0 : Hid ((w.alloc (Obj.cells #[.slice ta g.terms.length tc, .slice na g.names.length nc, .slice ra g.rules.length rc] 26)).heap[w.heap.size]? = some (.cells #[.slice ta g.terms.length tc, .slice na g.names.length nc, .slice ra g.rules.length rc] 26 (0, 0))) := heap_alloc_new w _
  have HLG : Hid (∀ (r : Bool) (W : World), Below w.heap.size w W → Gr.large g = r → Calls Try.prog 14 #[.agg (gmCells g ⟨ta, tc, na, nc, ra, rc⟩)] W fun e w' => e = .returned (.bool r) ∧ Below W.heap.size W w') := fun r W hW hl => large_is r g _ W hm (h.later hW).size hl
  have HGD : Hid (∀ (r : Bool) (W : World), Below w.heap.size w W → Gr.good g = r → Calls Try.prog 26 #[.agg (gmCells g ⟨ta, tc, na, nc, ra, rc⟩)] W fun e w' => e = .returned (.bool r) ∧ Below W.heap.size W w') := fun r W hW hr => refGood_any r g _ W hm (h.next hW) (by rw [Gr.refGood_is]; exact hr)
  simp only [gmCells] at HLG HGD ⊢
  clear h hm
  rcases hl with hl | ⟨hl, ho⟩
  · have HL1 : Hid (∀ _ : Unit, _) := fun _ => HLG.out true _ hbW.out hl
    clear HLG hl HGD
    go_enter Try.func7, Try.ntmps7
    go_wp2_with (first | (go_at_call 14; refine Calls.mono (HL1.out ()) ?_; rintro e w1 ⟨rfl, hb1⟩) | (go_at_call 16; refine Calls.mono (nwakes_any _) ?_; rintro e w3 ⟨rfl, hb3⟩))
    go_ret
    exact ⟨rfl, (hbW.out.trans (hb1.mono hbW.out.size)).trans (hb3.mono (hbW.out.trans (hb1.mono hbW.out.size)).size)⟩
  · have HL1 : Hid (∀ _ : Unit, _) := fun _ => HLG.out false _ hbW.out hl
    clear HLG hl
    obtain ⟨gd, hgd⟩ : ∃ gd, Gr.good g = gd := ⟨_, rfl⟩
    have HG1 : Hid (∀ (W : World), Below w.heap.size w W → _) := fun W hW => HGD.out gd W hW hgd
    have ho' : gd = false ∨ gd = true ∧ (50 < l.length ∨ l.length ≤ 50 ∧ 50 < m.length) := by rw [hgd] at ho; exact ho
    clear ho HGD
    go_enter Try.func7, Try.ntmps7
    go_wp2_with (go_at_call 14; fail)
    generalize (w.alloc (Obj.cells #[.slice ta g.terms.length tc, .slice na g.names.length nc, .slice ra g.rules.length rc] 26)) = W at *
    refine Calls.mono (HL1.out ()) ?_
    rintro e w1 ⟨rfl, hb1⟩
    have HB1 : Hid (Below w.heap.size w w1) := hbW.out.trans (hb1.mono hbW.out.size)
    obtain ⟨g0, g1, g2, _⟩ := cells_three_z ((hb1.block _ (Array.getElem?_eq_some_iff.1 b0.out).1).trans b0.out)
    clear hb1 b0 hbW HL1
    go_wp2_with (go_at_call 26; fail)
    refine Calls.mono (HG1.out _ HB1.out) ?_
    rintro e w2 ⟨rfl, hb2⟩
    have HB2 : Hid (Below w.heap.size w w2) := HB1.out.trans (hb2.mono HB1.out.size)
    clear g0 g1 g2 hb2 HB1 HG1 hgd
    rcases ho' with rfl | ⟨rfl, h5 | ⟨h5, h6⟩⟩
    · go_wp2_with (go_at_call 16; refine Calls.mono (nwakes_any _) ?_; rintro e w3 ⟨rfl, hb3⟩)
      go_ret
      exact ⟨rfl, HB2.out.trans (hb3.mono HB2.out.size)⟩
    · have h5i : (50 : Int) < (l.length : Int) := by omega
      go_wp2_with (go_at_call 16; refine Calls.mono (nwakes_any _) ?_; rintro e w3 ⟨rfl, hb3⟩)
      go_ret
      exact ⟨rfl, HB2.out.trans (hb3.mono HB2.out.size)⟩
    · have h5i : ¬ (50 : Int) < (l.length : Int) := by omega
      have h6i : (50 : Int) < (m.length : Int) := by omega
      go_wp2_with (go_at_call 16; refine Calls.mono (nwakes_any _) ?_; rintro e w3 ⟨rfl, hb3⟩)
      go_ret
      exact ⟨rfl, HB2.out.trans (hb3.mono HB2.out.size)⟩
end Go.Proofs.Ytimjopaedfefmaa
