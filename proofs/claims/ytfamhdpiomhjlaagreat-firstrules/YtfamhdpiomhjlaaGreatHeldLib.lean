/-
  Two rows of numbers one behind the other, amid a region that draws its order (go_region_held3).
-/
import Derived.Test.YtfamhdpiomhjlaaGreatFiMark
import Derived.Test.YtfamhdpiomhjlaaGreatGrOwn
import Derived.Deep.RegionHeld3
import Derived.Deep.DeepCutAuto
namespace Go.Proofs.YtfamhdpiomhjlaaGreat
open Go.RowKit Go.Conc

theorem grownBy_refl (w : World) (r : Option Nat) : w.grownBy w r := ⟨rfl, rfl, rfl, Nat.le_refl _, fun _ _ _ => rfl⟩

/-- append of a row of numbers, whoever's, nil too, onto a row of one's own -/
theorem wp_append_ints {o : Oper} {a : Act} {w : World} {K : Act → World → Prop} {Q : Exit → Act → World → Prop} (s x : Operand) (ho : o.op = .call { callee := .builtin .append, args := #[s, x], argTypes := #[32, 32] })
    (base : Nat) (v : Value) (xs : List Int) (hs : a.eval s = v) (hown : OwnInts base w v xs) (ao : Option Addr) (c : Nat) (ys : List Int) (hx : a.eval x = .slice ao ys.length c) (hS : IntsAt w.heap.size w ao ys) (hl : xs.length + ys.length ≤ 2000) (hbase : base ≤ w.heap.size)
    (h : ∀ v' w', OwnInts base w' v' (xs ++ ys) → w.grownBy w' v.ownBlock → K (a.put o.dst v') w') : o.wp Tryz.prog a w K Q := by
  obtain ⟨iA, hi, hz0, hz1, hz2⟩ := info_parts Tryz.infoIn
  cases ao with
  | none =>
    have e : ys = [] := by
      cases ys with
      | nil => rfl
      | cons y r => obtain ⟨b, o, h, _⟩ := hS 0 (by simp); cases h
    subst e
    obtain ⟨so, sc, rfl, _, hle, _⟩ := OwnInts.read hown
    have hsrc : Src Tryz.prog iA.size 32 (.slice none 0 c) 0 [] w := Src.ofNil w Tryz.underlying32 c
    have hr := run_append_nothing (P := Tryz.prog) w 32 32 o.type 3 iA Tryz.underlying32 hi so xs.length sc hle (.slice none 0 c) hsrc
    unfold Oper.wp execOp
    simp only [ho, resolve, invoke, builtin, Sem.run_bind, Sem.run_pure, Result.andThen_ok, List.map_toArray, List.map_cons, List.map_nil, hs, hx, List.length_nil, hr]
    refine h _ _ ?_ (grownBy_refl _ _)
    rw [List.append_nil]; exact hown
  | some ad =>
    refine wp_append_own w s x 32 ho base 3 iA _ 1 8 Tryz.underlying32 hi hz0 hz1 hz2 rfl (by decide) v xs.length (xs.map (.int .i64)) hs hown ad ys.length c (ys.map (.int .i64)) hx (by simp) ?_ (fun u hu => by obtain ⟨y, _, rfl⟩ := List.mem_map.1 hu; rfl) (by unfold maxLen; omega) (by omega) hbase (fun v' w' h2 h3 _ => h v' w' ?_ h3)
    · intro j u hj
      have hl := (List.getElem?_eq_some_iff.1 hj).1
      obtain ⟨b, o, e, _, _, hc⟩ := hS j hl
      cases e
      rw [addr_off_add, hc]
      rw [List.getElem?_eq_getElem hl] at hj
      exact hj
    · unfold OwnInts; rw [List.length_append, List.map_append]; exact h2

theorem allIn_append (bs : List Bool) (xs ys : List Int) : Nl.allIn bs (xs ++ ys) = (Nl.allIn bs xs && Nl.allIn bs ys) := by simp [Nl.allIn]
theorem Nl.all_good {g : Gr.Gm} (hg : Gr.good g = true) (l : List Int) : Nl.all g l = Nl.allIn (Nl.of g) l := by simp [Nl.all, hg]
theorem map_step {f : Int → Int} (l : List Int) (k : Nat) (h : k < l.length) : (l.take (k + 1)).map f = (l.take k).map f ++ [f l[k]] := by
  rw [List.take_add_one, List.getElem?_eq_getElem h, List.map_append]; rfl
theorem OwnInts.cell {base g n c : Nat} {w : World} {xs : List Int} (h : OwnInts base w (.slice (some ⟨g, 0, none⟩) n c) xs) (k : Nat) (hk : k < xs.length) : w.cell? ⟨g, k, none⟩ = some (.int .i64 xs[k]) := by
  have := World.ownsRow.cells h (g := g) rfl k (.int .i64 xs[k]) (by simp [hk])
  rw [addr_zero_add] at this; exact this
theorem u8_lt6 {x : Int} (h : (Lit.int .u8 x).wf = true) : 0 ≤ x ∧ x < 256 := by
  have h0 : decide (IntKind.u8.min ≤ x) && decide (x ≤ IntKind.u8.max) := h
  rw [Bool.and_eq_true, decide_eq_true_eq, decide_eq_true_eq, show IntKind.u8.min = 0 from rfl, show IntKind.u8.max = 255 from rfl] at h0
  omega

theorem low_lat {V w w' : World} (hL : Lat w w') (h : Below V.heap.size V w) : Below V.heap.size V w' := h.trans (Below.mono hL h.size)
theorem low_base {w w' : World} {o : Obj} (hL : Lat (w.alloc o) w') : w.heap.size ≤ w'.heap.size := by
  have := Below.size hL
  simp at this
  omega
theorem low_alloc {V w : World} {o : Obj} (h : Below V.heap.size V w) : Below V.heap.size V (w.alloc o) := h.alloc h.size _
theorem low_grown {V w w' : World} {r : Option Nat} (hg : w.grownBy w' r) (h : Below V.heap.size V w) (hr : ∀ k, r = some k → V.heap.size ≤ k) : Below V.heap.size V w' := h.grown hg h.size hr
theorem keep_g {V w' : World} {b : Nat} {x y z : Value} (hc : V.cell? ⟨b, 0, none⟩ = some x ∧ V.cell? ⟨b, 1, none⟩ = some y ∧ V.cell? ⟨b, 2, none⟩ = some z) (h : Below V.heap.size V w') : Below V.heap.size V w' ∧ w'.cell? ⟨b, 0, none⟩ = some x ∧ w'.cell? ⟨b, 1, none⟩ = some y ∧ w'.cell? ⟨b, 2, none⟩ = some z :=
  ⟨h, cell_later h hc.1, cell_later h hc.2.1, cell_later h hc.2.2⟩

theorem OwnInts.ints {base n c : Nat} {w : World} {ao : Option Addr} {xs : List Int} (h : OwnInts base w (.slice ao n c) xs) : IntsAt w.heap.size w ao xs := by
  obtain ⟨ao', c', e, h', _⟩ := OwnInts.read h
  simp only [Value.slice.injEq] at e
  obtain ⟨rfl, _, rfl⟩ := e
  exact h'

end Go.Proofs.YtfamhdpiomhjlaaGreat
