/-
  Layer 9 (follow): settled: a search that has followed up all gains.
  Layer 9 (follow): Sets, Of, Last.
  Layer 9 (follow): Last.
-/
import Derived.Test.YtdocbgfpnaiijaaGreatFoBegun
import Derived.Test.YtdocbgfpnaiijaaGreatFiSets
namespace Go.Proofs.YtdocbgfpnaiijaaGreat
open Go.RowKit Go.Conc

/-- the search in memory, and what it reads -/
structure FoC (g : Gr.Gm) (n : Nat) (H S C : Nat) (Bs : List Nat) (vs : List Value) (hs : List (List Int)) (st : Fi.St) (w w' : World) : Prop where
  below : Below w.heap.size w w'
  lt : w.heap.size ≤ C ∧ ∀ b ∈ Bs, w.heap.size ≤ b
  hei : LAt w.heap.size H vs hs w'
  at' : GAt S C (n + 1) (g.names.length * (g.terms.length + 1)) Bs st w'

theorem FoS.core {g : Gr.Gm} {n : Nat} {H S C : Nat} {Bs : List Nat} {vs : List Value} {hs : List (List Int)} {st : Fi.St} {w W w' : World} (h : FoS g n H S C Bs vs hs st W w') (hW : Below w.heap.size w W) : FoC g n H S C Bs vs hs st w w' :=
  ⟨hW.trans (h.below.mono hW.size), ⟨Nat.le_trans hW.size h.lt.1, fun b hb => Nat.le_trans hW.size (h.lt.2 b hb)⟩, h.hei.from hW.size, h.at'⟩
theorem FoC.later {g : Gr.Gm} {n : Nat} {H S C : Nat} {Bs : List Nat} {vs : List Value} {hs : List (List Int)} {st : Fi.St} {w W W' : World} (h : FoC g n H S C Bs vs hs st w W) (hb : Below W.heap.size W W') : FoC g n H S C Bs vs hs st w W' :=
  ⟨h.below.trans (hb.mono h.below.size), h.lt, h.hei.later hb, h.at'.later hb⟩
theorem FoC.step {g : Gr.Gm} {n : Nat} {H S C : Nat} {Bs : List Nat} {vs : List Value} {hs : List (List Int)} {st st' : Fi.St} {w W W' : World} (h : FoC g n H S C Bs vs hs st w W) (hb : ButL (C :: Bs) W W') (hg : GAt S C (n + 1) (g.names.length * (g.terms.length + 1)) Bs st' W') : FoC g n H S C Bs vs hs st' w W' := by
  obtain ⟨s, r, hch⟩ := h.at'.ch
  refine ⟨h.below.trans (hb.below (fun k hk => ?_) h.below.size), h.lt, h.hei.butL hb fun q hq cs fr e => ?_, hg⟩
  · rcases List.mem_cons.1 hk with hk | hk
    · rw [hk]; exact h.lt.1
    · exact h.lt.2 k hk
  · rcases List.mem_cons.1 hq with hq | hq
    · rw [hq] at e
      rcases e with e | e <;> rw [hch] at e <;> cases e
    · obtain ⟨i, hi, rfl⟩ := List.getElem_of_mem hq
      have hr := h.at'.rs.row i hi
      rcases e with e | e <;> rw [hr] at e
      · exact absurd (Obj.cells.inj (Option.some.inj e)).2.1 (by decide)
      · exact absurd (Obj.cells.inj (Option.some.inj e)).2.1 (by decide)
theorem FoC.not {g : Gr.Gm} {n : Nat} {H S C : Nat} {Bs : List Nat} {vs : List Value} {hs : List (List Int)} {st : Fi.St} {w W : World} (h : FoC g n H S C Bs vs hs st w W) {X : Nat} {cs : Array Value} {t : TypeId} {fr : Nat × Nat} (hX : W.heap[X]? = some (.cells cs t fr)) (ht : t ≠ 4) : X ∉ C :: Bs := by
  intro q
  rcases List.mem_cons.1 q with q | q
  · obtain ⟨s, r, hch⟩ := h.at'.ch
    rw [← q, hX] at hch; cases hch
  · obtain ⟨i, hi, e⟩ := List.getElem_of_mem q
    have hr := h.at'.rs.row i hi
    rw [e, hX] at hr
    exact ht (Obj.cells.inj (Option.some.inj hr)).2.1

/-- amid the search -/
structure FoV (g : Gr.Gm) (n : Nat) (no fo : Option Addr) (nnc fc H S C X : Nat) (Bs : List Nat) (vs : List Value) (hs : List (List Int)) (st : Fi.St) (w W : World) : Prop where
  core : FoC g n H S C Bs vs hs st w W
  sb : W.heap[X]? = some (.cells (foCells g.terms.length n no fo nnc fc H S C g.names.length) 57 (0, 0))
  rb : W.heap[w.heap.size + 1]? = some (.cells #[.int .i64 0, .int .i64 0, .slice none 0 0, .slice none 0 0, .slice none 0 0, .slice none 0 0, .chan none] 57 (0, 0))

/-- what stands behind each nonterminal, told -/
noncomputable def Fo.tabG (g : Gr.Gm) : List (List Bool) := Fo.tab (Fo.Fol g.rules (Nl.of g) g.terms.length (g.terms.length + g.names.length)) g.names.length (g.terms.length + g.names.length + 1)
theorem Fo.tabG_shape (g : Gr.Gm) : Fi.Shape g.names.length (g.terms.length + g.names.length + 1) (Fo.tabG g) := Fo.tab_shape _ _ _
/-- a settled search -/
structure FoE (g : Gr.Gm) (n : Nat) (S : Nat) (Bs : List Nat) (w w' : World) : Prop where
  below : Below w.heap.size w w'
  rs : RowsAt S (n + 1) Bs (Fo.tabG g) w'

set_option maxRecDepth 100000 in
set_option maxHeartbeats 6400000 in
theorem fosettled_any (g : Gr.Gm) (A : GA) (n : Nat) (w : World) (hn : g.terms.length + g.names.length = n) (hg : Gr.good g = true) (hm : ∀ x ∈ g.rules, x.2.length ≤ maxLen) (h : GmAt w.heap.size w g A) :
    Calls Tryz.prog 28 #[.agg (gmCells g A)] w fun e w' => ∃ no fo nnc fc H S C, e = .returned (.agg (foCells g.terms.length n no fo nnc fc H S C g.names.length)) ∧ ∃ Bs, Hid (FoE g n S Bs w w') := by
  obtain ⟨ta, tc, na, nc, ra, rac⟩ := A
  have HG : Hid (GmAt w.heap.size w g ⟨ta, tc, na, nc, ra, rac⟩) := h
  have HF0 := Nl.fit_of hg
  rw [hn] at HF0
  have HF : Hid (Nl.Fit g.terms.length n g.rules) := HF0
  have HTn : Hid (g.terms.length ≤ n) := by show _ ≤ _; omega
  have HBG : Hid (∀ W : World, Below w.heap.size w W → Calls Tryz.prog 51 #[.agg (gmCells g ⟨ta, tc, na, nc, ra, rac⟩)] W fun e w' => ∃ no fo nnc fc H S C, e = .returned (.agg (foCells g.terms.length n no fo nnc fc H S C g.names.length)) ∧ ∃ Bs vs hs st, Hid (FoS g n H S C Bs vs hs st W w')) := fun W hW => fobegun_any g _ n W hn hg hm (HG.out.next hW)
  have hB : Hid (Below w.heap.size w ((w.alloc (Obj.cells #[.slice ta g.terms.length tc, .slice na g.names.length nc, .slice ra g.rules.length rac] 25)).alloc (Obj.cells #[.int .i64 0, .int .i64 0, .slice none 0 0, .slice none 0 0, .slice none 0 0, .slice none 0 0, .chan none] 57))) := ((Below.refl _ w).alloc (Nat.le_refl _) _).alloc (by simp) _
  have b1 : Hid (((w.alloc (Obj.cells #[.slice ta g.terms.length tc, .slice na g.names.length nc, .slice ra g.rules.length rac] 25)).alloc (Obj.cells #[.int .i64 0, .int .i64 0, .slice none 0 0, .slice none 0 0, .slice none 0 0, .slice none 0 0, .chan none] 57)).heap[w.heap.size + 1]? = some (.cells #[.int .i64 0, .int .i64 0, .slice none 0 0, .slice none 0 0, .slice none 0 0, .slice none 0 0, .chan none] 57 (0, 0))) := by
    show _ = _
    have := heap_alloc_new (w.alloc (Obj.cells #[.slice ta g.terms.length tc, .slice na g.names.length nc, .slice ra g.rules.length rac] 25)) (Obj.cells #[.int .i64 0, .int .i64 0, .slice none 0 0, .slice none 0 0, .slice none 0 0, .slice none 0 0, .chan none] 57)
    simpa using this
  clear h hm HF0
  simp only [gmCells] at HBG ⊢
  go_enter Tryz.func28, Tryz.ntmps28
  go_wp2_with (go_at_call 51; fail)
  generalize ((w.alloc (Obj.cells #[.slice ta g.terms.length tc, .slice na g.names.length nc, .slice ra g.rules.length rac] 25)).alloc (Obj.cells #[.int .i64 0, .int .i64 0, .slice none 0 0, .slice none 0 0, .slice none 0 0, .slice none 0 0, .chan none] 57)) = W at *
  refine Calls.mono (HBG.out _ hB.out) ?_
  rintro e w2 ⟨no, fo, nnc, fc, H, S, C, rfl, Bs, vs, hs, st, hFS⟩
  have hC0 : Hid _ := hFS.out.core hB.out
  have hI0 : Hid _ := hFS.out.inv
  have HH : Hid (Fo.Heirs g.rules (Nl.of g) g.terms.length g.names.length hs) := hFS.out.heirs
  have HSM : Hid (∀ a : Nat, (hs.getD a []).length ≤ 480) := hFS.out.small
  have hz := hB.out.size
  have rb2 : Hid (w2.heap[w.heap.size + 1]? = some (.cells #[.int .i64 0, .int .i64 0, .slice none 0 0, .slice none 0 0, .slice none 0 0, .slice none 0 0, .chan none] 57 (0, 0))) := (hFS.out.below.block _ (Array.getElem?_eq_some_iff.1 b1.out).1).trans b1.out
  have HI : Hid (FoV g n no fo nnc fc H S C w2.heap.size Bs vs hs st w (w2.alloc (Obj.cells #[.int .i64 (g.terms.length : Int), .int .i64 (n : Int), .slice no n nnc, .slice fo n fc, .slice (some ⟨H, 0, none⟩) g.names.length g.names.length, .slice (some ⟨S, 0, none⟩) g.names.length g.names.length, .chan (some C)] 57))) :=
    ⟨hC0.out.later ((Below.refl _ w2).alloc (Nat.le_refl _) _), heap_alloc_new w2 _, (Below.heap_alloc _ _ _ (Array.getElem?_eq_some_iff.1 rb2.out).1).trans rb2.out⟩
  clear hFS hC0 rb2 b1 HBG hz
  simp only [foCells]
  go_upto_region 2 with fail
  generalize (w2.alloc (Obj.cells #[.int .i64 (g.terms.length : Int), .int .i64 (n : Int), .slice no n nnc, .slice fo n fc, .slice (some ⟨H, 0, none⟩) g.names.length g.names.length, .slice (some ⟨S, 0, none⟩) g.names.length g.names.length, .chan (some C)] 57)) = W3 at *
  generalize w2.heap.size = X at *
  go_loopw [4] (fun _ wr => ∃ (st : Fi.St), Hid (FoV g n no fo nnc fc H S C X Bs vs hs st w wr) ∧ Hid (Fo.Inv g.rules (Nl.of g) g.terms.length n g.names.length (fun _ _ _ => False) st)) (fun _ wr => Fo.left g.terms.length g.names.length (gstOf S C wr))
  case atStart => exact ⟨st, HI, hI0⟩
  case round =>
    obtain ⟨st', hA, hJ⟩ := hrel
    clear HI hI0
    have hsb := hA.out.sb
    simp only [foCells] at hsb
    obtain ⟨⟨c0, c1, c2, c3, c4, c5, c6⟩, _⟩ := cells_seven_z hsb
    have hbl := (Array.getElem?_eq_some_iff.1 hsb).1
    clear hsb
    obtain ⟨sn, rn, hch⟩ := hA.out.core.at'.ch
    have HCH : Hid _ := hch
    clear hch
    obtain ⟨ss, q⟩ := st'
    cases q with
    | nil =>
      go_upto_region 3 with fail
      refine wp_region_head ?_
      refine inReg_default (c := C) (cap := (g.names.length * (g.terms.length + 1))) (s := sn) (r := rn) (z := .agg #[.int .i64 0, .int .i64 0]) (tm := false) rfl rfl (by simp [go_sem, execOp, rcase, Act.eval]) HCH.out ?_
      refine inReg_list ?_
      have hd0 : ss = Fo.tab (Fo.Fol g.rules (Nl.of g) g.terms.length n) g.names.length (n + 1) := hJ.out.done
      have hd : ss = Fo.tabG g := by rw [hd0]; unfold Fo.tabG; rw [hn]
      have hR := hA.out.core.at'.rs
      simp only at hR
      rw [hd] at hR
      have hFE : Hid (∀ W6 : World, ButL [w.heap.size + 1] wr W6 → FoE g n S Bs w W6) := fun W6 hW => by
        have hnr := hA.out.core.not hA.out.rb (by decide)
        have hrl := (Array.getElem?_eq_some_iff.1 hA.out.rb).1
        refine ⟨hA.out.core.below.trans (hW.below (fun q hq => by rw [List.mem_singleton] at hq; omega) hA.out.core.below.size), hR.butL hW ?_ fun b hb e => ?_⟩
        · intro e
          rw [List.mem_singleton] at e
          have h1 := hR.sb
          rw [e, hA.out.rb] at h1
          exact absurd (Obj.cells.inj (Option.some.inj h1)).2.1 (by decide)
        · rw [List.mem_singleton] at e
          rw [e] at hb
          exact hnr (List.mem_cons_of_mem _ hb)
      obtain ⟨⟨d0, d1, d2, d3, d4, d5, d6⟩, z0, z1, z2, z3, z4, z5, z6⟩ := cells_seven_z hA.out.rb
      have hbl2 := (Array.getElem?_eq_some_iff.1 hA.out.rb).1
      have HB6 : Hid (ButL [w.heap.size + 1] wr (((((((wr.setCell ⟨w.heap.size + 1, 0, none⟩ (.int .i64 (g.terms.length : Int))).setCell ⟨w.heap.size + 1, 1, none⟩ (.int .i64 (n : Int))).setCell ⟨w.heap.size + 1, 2, none⟩ (.slice no n nnc)).setCell ⟨w.heap.size + 1, 3, none⟩ (.slice fo n fc)).setCell ⟨w.heap.size + 1, 4, none⟩ (.slice (some ⟨H, 0, none⟩) g.names.length g.names.length)).setCell ⟨w.heap.size + 1, 5, none⟩ (.slice (some ⟨S, 0, none⟩) g.names.length g.names.length)).setCell ⟨w.heap.size + 1, 6, none⟩ (.chan (some C)))) :=
        (((((((ButL.refl _ wr).setCell (List.mem_cons_self ..) _ _).setCell (List.mem_cons_self ..) _ _).setCell (List.mem_cons_self ..) _ _).setCell (List.mem_cons_self ..) _ _).setCell (List.mem_cons_self ..) _ _).setCell (List.mem_cons_self ..) _ _).setCell (List.mem_cons_self ..) _ _
      have k5 := gset7 (x0 := .int .i64 (g.terms.length : Int)) (x1 := .int .i64 (n : Int)) (x2 := .slice no n nnc) (x3 := .slice fo n fc) (x4 := .slice (some ⟨H, 0, none⟩) g.names.length g.names.length) (x5 := .slice (some ⟨S, 0, none⟩) g.names.length g.names.length) (x6 := .chan (some C)) hA.out.rb
      clear hA hJ HCH hR hd hd0
      go_wp2_with fail
      generalize (((((((wr.setCell ⟨w.heap.size + 1, 0, none⟩ (.int .i64 (g.terms.length : Int))).setCell ⟨w.heap.size + 1, 1, none⟩ (.int .i64 (n : Int))).setCell ⟨w.heap.size + 1, 2, none⟩ (.slice no n nnc)).setCell ⟨w.heap.size + 1, 3, none⟩ (.slice fo n fc)).setCell ⟨w.heap.size + 1, 4, none⟩ (.slice (some ⟨H, 0, none⟩) g.names.length g.names.length)).setCell ⟨w.heap.size + 1, 5, none⟩ (.slice (some ⟨S, 0, none⟩) g.names.length g.names.length)).setCell ⟨w.heap.size + 1, 6, none⟩ (.chan (some C))) = W6 at *
      obtain ⟨⟨e0, e1, e2, e3, e4, e5, e6⟩, _⟩ := cells_seven_z k5
      refine bodyPost_ret (v := .agg (foCells g.terms.length n no fo nnc fc H S C g.names.length)) (by simp [results, Tryz.results28, go_sem, foCells, e0, e1, e2, e3, e4, e5, e6]) rfl ⟨no, fo, nnc, fc, H, S, C, rfl, Bs, hFE.out _ HB6.out⟩
    | cons p q =>
      obtain ⟨a, t⟩ := p
      go_upto_region 3 with fail
      refine wp_region_head ?_
      refine inReg_taken (c := C) (cap := (g.names.length * (g.terms.length + 1))) (buf := (((a, t) :: q).map gainV).toArray) (s := sn) (r := rn) (z := .agg #[.int .i64 0, .int .i64 0]) (closed := false) (tm := false) rfl rfl (by simp [go_sem, execOp, rcase, Act.eval]) HCH.out (by simp) ?_
      refine inReg_list ?_
      have hnX := hA.out.core.not hA.out.sb (by decide)
      have hnR := hA.out.core.not hA.out.rb (by decide)
      have S4 : Hid _ := hA.out.core.at'.take sn (rn + 1)
      have hb4 : Hid (ButL (C :: Bs) wr (wr.setChan C (g.names.length * (g.terms.length + 1)) ((((a, t) :: q).map gainV).toArray.extract 1 (((a, t) :: q).map gainV).toArray.size) false sn (rn + 1) false)) := (ButL.refl _ wr).setChan (List.mem_cons_self ..) _ _ _ _ _ _
      have hx0 : (((a, t) :: q).map gainV).toArray.getD 0 undef = .agg #[.int .i64 a, .int .i64 t] := by simp [gainV]
      rw [hx0]
      generalize (wr.setChan C (g.names.length * (g.terms.length + 1)) ((((a, t) :: q).map gainV).toArray.extract 1 (((a, t) :: q).map gainV).toArray.size) false sn (rn + 1) false) = W4 at *
      obtain ⟨hi4, hlt4, hal, ht4, hls⟩ := hJ.out.take HF.out hn HH.out
      have e1 := hA.out.core.at'.read
      have C4 : Hid _ := hA.out.core.step hb4.out S4.out
      have sb4 : Hid (W4.heap[X]? = some (.cells (foCells g.terms.length n no fo nnc fc H S C g.names.length) 57 (0, 0))) := (hb4.out.block _ hbl hnX).trans hA.out.sb
      have rb4 : Hid _ := (hb4.out.block _ (Array.getElem?_eq_some_iff.1 hA.out.rb).1 hnR).trans hA.out.rb
      obtain ⟨MO, hMO⟩ : ∃ MO, Fo.left g.terms.length g.names.length (gstOf S C wr) = MO := ⟨_, rfl⟩
      have HM0 : Hid (Fo.left g.terms.length g.names.length (⟨ss, q⟩ : Fi.St) < MO) := by
        show _ < _
        rw [← hMO, e1]; exact hlt4
      have HMO : Hid (Fo.left g.terms.length g.names.length (gstOf S C wr) = MO) := hMO
      clear hMO
      obtain ⟨k, rfl⟩ : ∃ k : Nat, a = k := ⟨a.toNat, by omega⟩
      have hkn : k < g.names.length := by omega
      have hvl : vs.length = g.names.length := by rw [hA.out.core.hei.len, HH.out.1]
      have hkv : k < vs.length := by omega
      simp only [Int.toNat_natCast] at hi4 hls
      obtain ⟨lo, lc, hvk, _⟩ := OwnInts.read (C4.out.hei.own k hkv)
      have VK : Hid (vs[k] = .slice lo (hs.getD k []).length lc) := hvk
      have cL : W4.cell? ⟨H, k, none⟩ = some (.slice lo (hs.getD k []).length lc) := by rw [← hvk]; exact (C4.out.hei.cell k hkv).1
      have hLl := (Array.getElem?_eq_some_iff.1 C4.out.hei.lb).1
      have HLS : Hid (∀ l ∈ hs.getD k [], (0 ≤ l ∧ l < g.names.length) ∧ Fo.Fol g.rules (Nl.of g) g.terms.length n l t) := hls
      have HI4 : Hid _ := hi4
      have HT4 : Hid (0 ≤ t ∧ (t < g.terms.length ∨ t = n)) := ht4
      have ht5 : 0 ≤ t ∧ t < (n + 1 : Nat) := by have := HTn.out; omega
      have hbn : Hid (Below W4.heap.size W4 (W4.alloc (Obj.cells #[.int .i64 (k : Int), .int .i64 t] 77))) := (Below.refl _ W4).alloc (Nat.le_refl _) _
      have P5 : Hid (FoV g n no fo nnc fc H S C X Bs vs hs ⟨ss, q⟩ w (W4.alloc (Obj.cells #[.int .i64 (k : Int), .int .i64 t] 77))) :=
        ⟨C4.out.later hbn.out, (hbn.out.block _ (Array.getElem?_eq_some_iff.1 sb4.out).1).trans sb4.out, (hbn.out.block _ (Array.getElem?_eq_some_iff.1 rb4.out).1).trans rb4.out⟩
      have kn : Hid ((W4.alloc (Obj.cells #[.int .i64 (k : Int), .int .i64 t] 77)).heap[W4.heap.size]? = some (.cells #[.int .i64 (k : Int), .int .i64 t] 77 (0, 0))) := heap_alloc_new W4 _
      have hsb4 := sb4.out
      simp only [foCells] at hsb4
      clear c0 c1 c2 c3 c4 c5 c6
      obtain ⟨⟨c0, c1, c2, c3, c4, c5, c6⟩, _⟩ := cells_seven_z hsb4
      have hbl4 := (Array.getElem?_eq_some_iff.1 hsb4).1
      clear hi4 hls hlt4 hA hJ HCH S4 hb4 hx0 e1 C4 hvk hsb4 rb4 hnX hnR hbl ht4
      have hki : (k : Int) < (g.names.length : Int) := by omega
      have hls8 := HSM.out k
      obtain ⟨ls, hlse⟩ : ∃ ls, hs.getD k [] = ls := ⟨_, rfl⟩
      rw [hlse] at HLS HI4 VK cL hls8
      have LSE : Hid (hs.getD k [] = ls) := hlse
      clear hlse
      go_wp2_with fail
      generalize (W4.alloc (Obj.cells #[.int .i64 (k : Int), .int .i64 t] 77)) = W5 at *
      generalize W4.heap.size = G at *
      go_loopw [23] (fun i wr => ∃ (m : Nat) (st : Fi.St), m ≤ ls.length ∧ i = .int .i64 m ∧ Hid (FoV g n no fo nnc fc H S C X Bs vs hs st w wr) ∧ Hid (wr.heap[G]? = some (.cells #[.int .i64 (k : Int), .int .i64 t] 77 (0, 0))) ∧ Hid (Fo.Inv g.rules (Nl.of g) g.terms.length n g.names.length (fun _ u l => u = t ∧ l ∈ ls.drop m) st) ∧ Hid (Fo.left g.terms.length g.names.length st ≤ Fo.left g.terms.length g.names.length ⟨ss, q⟩)) (fun i _ => ls.length - (intOf i).toNat)
      case atStart => exact ⟨0, _, Nat.zero_le _, rfl, P5, kn, HI4, Nat.le_refl _⟩
      case round =>
        obtain ⟨m, st, hm, rfl, hA, hG, hJ, hL⟩ := hrel
        clear P5 kn HI4 c0 c1 c2 c3 c4 c5 c6 cL sb4
        by_cases hml : m < ls.length
        · have how := hA.out.core.hei.own k hkv
          rw [LSE.out] at how
          obtain ⟨lo2, lc2, e2, rd, _⟩ := OwnInts.read how
          clear how
          rw [VK.out] at e2
          obtain ⟨rfl, rfl⟩ : lo = lo2 ∧ lc = lc2 := by
            simp only [Value.slice.injEq] at e2
            exact ⟨e2.1, e2.2.2⟩
          obtain ⟨lb, lof, rfl, _, _, l0⟩ := IntsAt.get rd m hml
          obtain ⟨y0, hbg⟩ := HLS.out _ (List.getElem_mem hml)
          obtain ⟨j2, L2, hrm⟩ := hJ.out.again HTn.out hml y0 HT4.out hbg
          have J2 : Hid _ := j2
          have hnX := hA.out.core.not hA.out.sb (by decide)
          have hnR := hA.out.core.not hA.out.rb (by decide)
          have hnG := hA.out.core.not hG.out (by decide)
          have HX : Hid (X ∉ C :: Bs ∧ w.heap.size + 1 ∉ C :: Bs ∧ G ∉ C :: Bs) := ⟨hnX, hnR, hnG⟩
          have HGR : Hid _ := fogrow_any st g.names.length g.terms.length n S C (g.names.length * (g.terms.length + 1)) H nnc fc no fo Bs ls[m] t wr hA.out.core.at' hJ.out.ok.shape.len y0 ht5 hrm
          have HL2 : Hid _ := Nat.le_trans L2 hL.out
          have hsb6 := hA.out.sb
          simp only [foCells] at hsb6 HGR
          obtain ⟨⟨c0, c1, c2, c3, c4, c5, c6⟩, _⟩ := cells_seven_z hsb6
          obtain ⟨g0, g1, _⟩ := cells_two_z hG.out
          have hb6l := (Array.getElem?_eq_some_iff.1 hsb6).1
          have hg6l := (Array.getElem?_eq_some_iff.1 hG.out).1
          clear rd e2 hJ hbg L2 hrm hsb6 hnX hnR hnG j2
          generalize ls[m] = y at *
          go_wp2_with (go_at_call 52; refine Calls.mono HGR.out ?_; rintro e w5 ⟨rfl, hb5, hs5⟩)
          have N1 : Hid (FoV g n no fo nnc fc H S C X Bs vs hs (Fi.grow st y t) w w5) :=
            ⟨hA.out.core.step hb5.out hs5.out, (hb5.out.block _ hb6l HX.out.1).trans hA.out.sb, (hb5.out.block _ (Array.getElem?_eq_some_iff.1 hA.out.rb).1 HX.out.2.1).trans hA.out.rb⟩
          have N2 : Hid _ := (hb5.out.block _ hg6l HX.out.2.2).trans hG.out
          clear c0 c1 c2 c3 c4 c5 c6 g0 g1 l0 HGR hb5 hs5 hA hG hL
          go_roundw
          case rel => exact ⟨m + 1, _, by omega, by go_num, N1, N2, J2, HL2⟩
          case measure => simp [intOf]; omega
        · obtain rfl : m = ls.length := by omega
          have J2 : Hid _ := hJ.out.rest
          have e2 := hA.out.core.at'.read
          have HM : Hid (Fo.left g.terms.length g.names.length (gstOf S C wr) < MO) := by
            show _ < _
            rw [e2]
            exact Nat.lt_of_le_of_lt hL.out HM0.out
          clear hJ hG hL e2
          go_wp2_with fail
          go_roundw
          case rel => exact ⟨st, hA, J2⟩
          case measure => exact Nat.lt_of_lt_of_eq HM.out HMO.out.symm
end Go.Proofs.YtdocbgfpnaiijaaGreat

namespace Go.Proofs.YtdocbgfpnaiijaaGreat
open Go.RowKit Go.Conc

/-- of each nonterminal -/
noncomputable def Fo.setsG (g : Gr.Gm) : List (List Int) := if Gr.good g = true then (Fo.tabG g).map Fi.rise else []
/-- is it a nonterminal's number? -/
def Fo.okN (g : Gr.Gm) (s : Int) : Bool := Gr.good g && decide ((g.terms.length : Int) ≤ s ∧ s < (g.terms.length : Int) + (g.names.length : Int))
noncomputable def Fo.ofN (g : Gr.Gm) (s : Int) : List Int := if Fo.okN g s = true then Fi.rise ((Fo.tabG g).getD (s - (g.terms.length : Int)).toNat []) else []
/-- of each nonterminal, whether the end stands behind it -/
noncomputable def Fo.lastG (g : Gr.Gm) : List Bool := if Gr.good g = true then (Fo.tabG g).map (fun r => r.getD (g.terms.length + g.names.length) false) else []

set_option maxRecDepth 100000 in
set_option maxHeartbeats 3200000 in
theorem fosets_own (g : Gr.Gm) (A : GA) (w : World) (hm : ∀ x ∈ g.rules, x.2.length ≤ maxLen) (h : GmAt w.heap.size w g A) :
    Calls Tryz.prog 10 #[.agg (gmCells g A)] w fun e w' => ∃ xo xc, e = .returned (.slice xo (Fo.setsG g).length xc) ∧ Hid (OwnRows w.heap.size w' (.slice xo (Fo.setsG g).length xc) (Fo.setsG g)) ∧ Hid (Below w.heap.size w w') := by
  obtain ⟨ta, tc, na, nc, ra, rac⟩ := A
  have HG : Hid (GmAt w.heap.size w g ⟨ta, tc, na, nc, ra, rac⟩) := h
  have HGD : Hid (∀ (r : Bool) (W : World), Below w.heap.size w W → Gr.good g = r → Calls Tryz.prog 27 #[.agg (gmCells g ⟨ta, tc, na, nc, ra, rac⟩)] W fun e w' => e = .returned (.bool r) ∧ Below W.heap.size W w') := fun r W hW hr => good_is r g _ W hm (h.next hW) hr
  have hbW : Hid (Below w.heap.size w (w.alloc (Obj.cells #[.slice ta g.terms.length tc, .slice na g.names.length nc, .slice ra g.rules.length rac] 25))) := (Below.refl _ w).alloc (Nat.le_refl _) _
  have B0 : Hid ((w.alloc (Obj.cells #[.slice ta g.terms.length tc, .slice na g.names.length nc, .slice ra g.rules.length rac] 25)).heap[w.heap.size]? = some (.cells #[.slice ta g.terms.length tc, .slice na g.names.length nc, .slice ra g.rules.length rac] 25 (0, 0))) := heap_alloc_new w _
  clear h
  cases hg : Gr.good g
  · have R : Hid (Fo.setsG g = []) := by show _ = _; simp [Fo.setsG, hg]
    have HC1 : Hid (∀ _ : Unit, _) := fun _ => HGD.out false _ hbW.out hg
    clear HGD hm
    simp only [gmCells] at HC1 ⊢
    go_enter Tryz.func10, Tryz.ntmps10
    go_wp2_with (go_at_call 27; refine (HC1.out ()).mono ?_; rintro e w1 ⟨rfl, hb1⟩)
    go_ret
    refine ⟨none, 0, by rw [R.out]; rfl, ?_, hbW.out.trans (hb1.mono hbW.out.size)⟩
    rw [R.out]; exact OwnRows.nil _ _
  · have hsz := (Nl.sizes_of hg).1
    have HC1 : Hid (∀ _ : Unit, _) := fun _ => HGD.out true _ hbW.out hg
    have R : Hid (Fo.setsG g = (Fo.tabG g).map Fi.rise) := by show _ = _; simp [Fo.setsG, hg]
    obtain ⟨M, hM⟩ : ∃ M, g.terms.length + g.names.length = M := ⟨_, rfl⟩
    have HSE : Hid (∀ W : World, Below w.heap.size w W → _) := fun W hW => fosettled_any g ⟨ta, tc, na, nc, ra, rac⟩ M W hM hg hm (HG.out.next hW)
    have hfd : ∀ (x0 x1 x2 x3 x4 x5 x6 : Value) (w : World), (Instr.field 57 (.agg #[x0, x1, x2, x3, x4, x5, x6]) 5).run Tryz.prog w = .ok x5 w := fun _ _ _ _ _ _ _ _ => by kernel_rfl
    clear HGD hm
    simp only [gmCells] at HC1 HSE ⊢
    go_enter Tryz.func10, Tryz.ntmps10
    go_wp2_with (go_at_call 27; fail)
    generalize (w.alloc (Obj.cells #[.slice ta g.terms.length tc, .slice na g.names.length nc, .slice ra g.rules.length rac] 25)) = W at *
    refine (HC1.out ()).mono ?_
    rintro e w1 ⟨rfl, hb1⟩
    have HB1 : Hid (Below w.heap.size w w1) := hbW.out.trans (hb1.mono hbW.out.size)
    have B1 : Hid _ := (hb1.block _ (Array.getElem?_eq_some_iff.1 B0.out).1).trans B0.out
    obtain ⟨g0, g1, g2, _⟩ := cells_three_z B1.out
    have hz := (Array.getElem?_eq_some_iff.1 B1.out).1
    clear hb1 B0 HC1
    go_wp2_with (go_at_call 28; fail)
    refine Calls.mono (HSE.out _ HB1.out) ?_
    rintro e w3 ⟨no, fo, nnc, fc, H, S, C, rfl, Bs, hE⟩
    have HB3 : Hid (Below w.heap.size w w3) := HB1.out.trans (hE.out.below.mono HB1.out.size)
    have HR : Hid (RowsAt S (M + 1) Bs (Fo.tabG g) w3) := hE.out.rs
    clear hE HSE g0 g1 g2 hz B1
    have hBl : Bs.length = g.names.length := by rw [HR.out.len, (Fo.tabG_shape g).len]
    have htl : (Fo.tabG g).length = g.names.length := (Fo.tabG_shape g).len
    have HRS : Hid (∀ (k : Nat) (hk : k < Bs.length) (W : World), Below w3.heap.size w3 W → Calls Tryz.prog 29 #[.slice (some ⟨Bs[k], 0, none⟩) (M + 1) (M + 1)] W fun e w' => ∃ v, e = .returned v ∧ Hid (OwnInts W.heap.size w' v (Fi.rise ((Fo.tabG g).getD k []))) ∧ Hid (Below W.heap.size W w')) := fun k hk W hW => by
      have hkl : k < (Fo.tabG g).length := by omega
      have hlk : ((Fo.tabG g).getD k []).length = M + 1 := by
        have : (Fo.tabG g).getD k [] = (Fo.tabG g)[k] := by simp [List.getD_eq_getElem?_getD, hkl]
        rw [this]; exact HR.out.each _ (List.getElem_mem hkl)
      have := frising_any ((Fo.tabG g).getD k []) (some ⟨Bs[k], 0, none⟩) (M + 1) W ((HR.out.later hW).bools k hk) (by omega)
      rw [hlk] at this; exact this
    simp only [foCells]
    generalize hts : Fo.tabG g = ts at *
    generalize hnn : g.names.length = n at *
    go_wp2_with fail
    go_loopw [3, 13] (fun l i wr => ∃ (k : Nat) (xo : Option Addr) (xc : Nat), k ≤ n ∧ i = .int .i64 k ∧ l = .slice xo k xc ∧ Hid (OwnRows w3.heap.size wr (.slice xo k xc) ((ts.take k).map Fi.rise)) ∧ Hid (Below w3.heap.size w3 wr)) (fun _ i _ => n - (intOf i).toNat)
    case atStart => exact ⟨0, none, 0, Nat.zero_le _, rfl, rfl, OwnRows.nil _ _, Below.refl _ _⟩
    case round =>
      obtain ⟨k, xo, xc, hk, rfl, rfl, hO, hbk⟩ := hrel
      by_cases hkl : k < n
      · have hki : (k : Int) < (n : Int) := by omega
        have hkB : k < Bs.length := by omega
        have HR1 : Hid _ := HRS.out k hkB wr hbk.out
        have cS := (HR.out.later hbk.out).head k hkB
        have hSl := (HR.out.later hbk.out).lt.1
        have ST : Hid _ := Fi.map_step Fi.rise ts k (by omega)
        have HLN : Hid (((ts.take k).map Fi.rise).length = k) := by
          show _ = _; rw [List.length_map, List.length_take]; omega
        generalize (ts.take k).map Fi.rise = xs at *
        generalize Fi.rise (ts.getD k []) = rs at *
        generalize Bs[k] = B at *
        go_wp2_with (go_at_call 29; fail)
        refine Calls.mono HR1.out ?_
        rintro e w6 ⟨v, rfl, hov, hb6⟩
        obtain ⟨vo, vc, rfl, _⟩ := OwnInts.read hov.out
        have hb7 : Hid (Below w6.heap.size w6 (w6.alloc (Obj.cells #[.slice vo rs.length vc] 31))) := (Below.refl _ w6).alloc (Nat.le_refl _) _
        have HO7 : Hid (OwnRows w3.heap.size (w6.alloc (Obj.cells #[.slice vo rs.length vc] 31)) (.slice xo k xc) xs) := (hO.out.below hb6.out).below hb7.out
        have HU7 : Hid (OwnInts w3.heap.size (w6.alloc (Obj.cells #[.slice vo rs.length vc] 31)) (.slice vo rs.length vc) rs) := ownsRow_below (ownsRow_from hov.out hbk.out.size) hb7.out
        have HB7 : Hid (Below w3.heap.size w3 (w6.alloc (Obj.cells #[.slice vo rs.length vc] 31))) := (hbk.out.trans (hb6.out.mono hbk.out.size)).alloc (hbk.out.trans (hb6.out.mono hbk.out.size)).size _
        have hbase := HB7.out.size
        clear hov hO hb6 hb7 HR1 cS
        go_wp2_with (at_builtin; refine wpList_append_row rfl _ _ rfl w3.heap.size _ xs rfl HO7.out w6.heap.size 1 _ rs HU7.out rfl (by simp [go_sem]) (by rw [HLN.out]; omega) hbase ?_; intro ga cap w8 ho8 hg8)
        have HB8 : Hid (Below w3.heap.size w3 w8) := by
          obtain ⟨vs, h1, _⟩ := HO7.out
          exact HB7.out.grown hg8 hbase (fun k hk => (h1.lt k hk).1)
        have HO8 : Hid (OwnRows w3.heap.size w8 (.slice (some ⟨ga, 0, none⟩) (k + 1) cap) ((ts.take (k + 1)).map Fi.rise)) := by
          show OwnRows _ _ _ _
          rw [ST.out]; rw [HLN.out] at ho8; exact ho8
        rw [HLN.out]
        clear ho8 hg8 HO7 HU7 HB7 hbk
        go_roundw
        case rel => exact ⟨k + 1, _, _, by omega, by go_num, rfl, HO8, HB8⟩
        case measure => simp [intOf]; omega
      · obtain rfl : k = n := by omega
        have hki : ¬ (k : Int) < (k : Int) := by omega
        have hfin : ts.take k = ts := List.take_of_length_le (by omega)
        have hlm : (ts.map Fi.rise).length = k := by rw [List.length_map]; omega
        have RL : Hid ((Fo.setsG g).length = k) := by show _ = _; rw [R.out]; exact hlm
        have RD : Hid (OwnRows w.heap.size wr (.slice xo (Fo.setsG g).length xc) (Fo.setsG g)) := by
          have h0 := hO.out
          rw [hfin] at h0
          show OwnRows _ _ _ _
          rw [RL.out, R.out]
          exact h0.from HB3.out.size
        clear hO hlm hfin
        go_wp2_with fail
        go_ret
        exact ⟨xo, xc, by rw [RL.out]; rfl, RD, HB3.out.trans (hbk.out.mono HB3.out.size)⟩

theorem fosets_is (g : Gr.Gm) (A : GA) (w : World) (hm : ∀ x ∈ g.rules, x.2.length ≤ maxLen) (h : GmAt w.heap.size w g A) :
    Calls Tryz.prog 10 #[.agg (gmCells g A)] w fun e w' => ∃ xo xc, e = .returned (.slice xo (Fo.setsG g).length xc) ∧ Hid (LisAt w'.heap.size w' xo (Fo.setsG g)) ∧ Hid (Below w.heap.size w w') := by
  refine Calls.mono (fosets_own g A w hm h) ?_
  rintro e w' ⟨xo, xc, rfl, ho, hb⟩
  obtain ⟨ao, c, e, h1, _⟩ := OwnRows.read ho.out
  simp only [Value.slice.injEq] at e
  obtain ⟨rfl, _⟩ := e
  exact ⟨xo, xc, rfl, h1, hb⟩

set_option maxRecDepth 100000 in
set_option maxHeartbeats 3200000 in
theorem foof_is (g : Gr.Gm) (A : GA) (s : Int) (k : Int) (w : World) (hm : ∀ x ∈ g.rules, x.2.length ≤ maxLen) (h : GmAt w.heap.size w g A) (hk : (if Fo.okN g s = true then 0 else 1) = k) :
    Calls Tryz.prog 12 #[.agg (gmCells g A), .int .i64 s] w fun e w' => ∃ xo xc, e = .returned (.tuple #[.slice xo (Fo.ofN g s).length xc, .int .i64 k]) ∧ Hid (IntsAt w'.heap.size w' xo (Fo.ofN g s)) ∧ Hid (Below w.heap.size w w') := by
  obtain ⟨ta, tc, na, nc, ra, rac⟩ := A
  have HG : Hid (GmAt w.heap.size w g ⟨ta, tc, na, nc, ra, rac⟩) := h
  have HK : Hid _ := hk
  have HGD : Hid (∀ (r : Bool) (W : World), Below w.heap.size w W → Gr.good g = r → Calls Tryz.prog 27 #[.agg (gmCells g ⟨ta, tc, na, nc, ra, rac⟩)] W fun e w' => e = .returned (.bool r) ∧ Below W.heap.size W w') := fun r W hW hr => good_is r g _ W hm (h.next hW) hr
  have hbW : Hid (Below w.heap.size w (w.alloc (Obj.cells #[.slice ta g.terms.length tc, .slice na g.names.length nc, .slice ra g.rules.length rac] 25))) := (Below.refl _ w).alloc (Nat.le_refl _) _
  have B0 : Hid ((w.alloc (Obj.cells #[.slice ta g.terms.length tc, .slice na g.names.length nc, .slice ra g.rules.length rac] 25)).heap[w.heap.size]? = some (.cells #[.slice ta g.terms.length tc, .slice na g.names.length nc, .slice ra g.rules.length rac] 25 (0, 0))) := heap_alloc_new w _
  clear h hk
  cases hg : Gr.good g
  · have R : Hid (Fo.ofN g s = []) := by show _ = _; simp [Fo.ofN, Fo.okN, hg]
    have RK : Hid (k = 1) := by show _ = _; rw [← HK.out]; simp [Fo.okN, hg]
    have HC1 : Hid (∀ _ : Unit, _) := fun _ => HGD.out false _ hbW.out hg
    clear HGD HK hm
    simp only [gmCells] at HC1 ⊢
    go_enter Tryz.func12, Tryz.ntmps12
    go_wp2_with (go_at_call 27; refine (HC1.out ()).mono ?_; rintro e w1 ⟨rfl, hb1⟩)
    go_ret2
    refine ⟨none, 0, by rw [R.out, RK.out]; rfl, ?_, hbW.out.trans (hb1.mono hbW.out.size)⟩
    rw [R.out]; exact CellsAt.nil
  · have hsz := (Nl.sizes_of hg).1
    have HC1 : Hid (∀ _ : Unit, _) := fun _ => HGD.out true _ hbW.out hg
    have HSE : Hid (∀ W : World, Below w.heap.size w W → _) := fun W hW => fosettled_any g ⟨ta, tc, na, nc, ra, rac⟩ _ W rfl hg hm (HG.out.next hW)
    have hwn : IntKind.wrap .i64 ((g.terms.length : Int) + (g.names.length : Int)) = (g.terms.length : Int) + (g.names.length : Int) := by rw [IntKind.wrap_i64]; omega
    clear HGD hm
    by_cases h1 : s < (g.terms.length : Int)
    · have R : Hid (Fo.ofN g s = []) := by
        show _ = _
        unfold Fo.ofN Fo.okN
        rw [if_neg (by simp; intro _; omega)]
      have RK : Hid (k = 1) := by
        show _ = _
        rw [← HK.out]
        unfold Fo.okN
        rw [if_neg (by simp; intro _; omega)]
      have hd : decide (s < (g.terms.length : Int)) = true := decide_eq_true h1
      clear HSE HK
      simp only [gmCells] at HC1 ⊢
      go_enter Tryz.func12, Tryz.ntmps12
      go_wp2_with (go_at_call 27; fail)
      generalize (w.alloc (Obj.cells #[.slice ta g.terms.length tc, .slice na g.names.length nc, .slice ra g.rules.length rac] 25)) = W at *
      refine (HC1.out ()).mono ?_
      rintro e w1 ⟨rfl, hb1⟩
      have HB1 : Hid (Below w.heap.size w w1) := hbW.out.trans (hb1.mono hbW.out.size)
      obtain ⟨g0, g1, g2, _⟩ := cells_three_z ((hb1.block _ (Array.getElem?_eq_some_iff.1 B0.out).1).trans B0.out)
      have hz := Nat.lt_of_lt_of_le (Array.getElem?_eq_some_iff.1 B0.out).1 hb1.size
      clear hb1 B0
      go_wp2_with fail
      go_ret2
      refine ⟨none, 0, by rw [R.out, RK.out]; rfl, ?_, HB1.out⟩
      rw [R.out]; exact CellsAt.nil
    · have hd : decide (s < (g.terms.length : Int)) = false := decide_eq_false h1
      by_cases h2 : (g.terms.length : Int) + (g.names.length : Int) ≤ s
      · have R : Hid (Fo.ofN g s = []) := by
          show _ = _
          unfold Fo.ofN Fo.okN
          rw [if_neg (by simp; intro _; omega)]
        have RK : Hid (k = 1) := by
          show _ = _
          rw [← HK.out]
          unfold Fo.okN
          rw [if_neg (by simp; intro _; omega)]
        clear HSE HK
        simp only [gmCells] at HC1 ⊢
        go_enter Tryz.func12, Tryz.ntmps12
        go_wp2_with (go_at_call 27; fail)
        generalize (w.alloc (Obj.cells #[.slice ta g.terms.length tc, .slice na g.names.length nc, .slice ra g.rules.length rac] 25)) = W at *
        refine (HC1.out ()).mono ?_
        rintro e w1 ⟨rfl, hb1⟩
        have HB1 : Hid (Below w.heap.size w w1) := hbW.out.trans (hb1.mono hbW.out.size)
        obtain ⟨g0, g1, g2, _⟩ := cells_three_z ((hb1.block _ (Array.getElem?_eq_some_iff.1 B0.out).1).trans B0.out)
        have hz := Nat.lt_of_lt_of_le (Array.getElem?_eq_some_iff.1 B0.out).1 hb1.size
        clear hb1 B0
        go_wp2_with fail
        go_ret2
        refine ⟨none, 0, by rw [R.out, RK.out]; rfl, ?_, HB1.out⟩
        rw [R.out]; exact CellsAt.nil
      · have hok : Fo.okN g s = true := by
          unfold Fo.okN
          simp [hg]; omega
        have RK : Hid (k = 0) := by show _ = _; rw [← HK.out, if_pos hok]
        obtain ⟨m, hmm⟩ : ∃ m : Nat, s - (g.terms.length : Int) = (m : Int) := ⟨(s - (g.terms.length : Int)).toNat, by omega⟩
        have hmN : m < g.names.length := by omega
        have hmI : (m : Int) < (g.names.length : Int) := by omega
        have R : Hid (Fo.ofN g s = Fi.rise ((Fo.tabG g).getD m [])) := by
          show _ = _
          unfold Fo.ofN
          rw [if_pos hok, hmm, Int.toNat_natCast]
        have hws : IntKind.wrap .i64 (s - (g.terms.length : Int)) = (m : Int) := by rw [hmm, IntKind.wrap_i64]; omega
        have hws2 : IntKind.wrap .i64 (m : Int) = (m : Int) := by rw [IntKind.wrap_i64]; omega
        have hfd : ∀ (x0 x1 x2 x3 x4 x5 x6 : Value) (w : World), (Instr.field 57 (.agg #[x0, x1, x2, x3, x4, x5, x6]) 5).run Tryz.prog w = .ok x5 w := fun _ _ _ _ _ _ _ _ => by kernel_rfl
        clear HK
        simp only [gmCells] at HC1 HSE ⊢
        go_enter Tryz.func12, Tryz.ntmps12
        go_wp2_with (go_at_call 27; fail)
        generalize (w.alloc (Obj.cells #[.slice ta g.terms.length tc, .slice na g.names.length nc, .slice ra g.rules.length rac] 25)) = W at *
        refine (HC1.out ()).mono ?_
        rintro e w1 ⟨rfl, hb1⟩
        have HB1 : Hid (Below w.heap.size w w1) := hbW.out.trans (hb1.mono hbW.out.size)
        have B1 : Hid (w1.heap[w.heap.size]? = some (.cells #[.slice ta g.terms.length tc, .slice na g.names.length nc, .slice ra g.rules.length rac] 25 (0, 0))) := (hb1.block _ (Array.getElem?_eq_some_iff.1 B0.out).1).trans B0.out
        obtain ⟨g0, g1, g2, _⟩ := cells_three_z B1.out
        have hz := (Array.getElem?_eq_some_iff.1 B1.out).1
        have HC : Hid (∀ W1 : World, Lat w1.drew W1 → Below w.heap.size w W1 ∧ W1.cell? ⟨w.heap.size, 0, none⟩ = some (.slice ta g.terms.length tc) ∧ W1.cell? ⟨w.heap.size, 1, none⟩ = some (.slice na g.names.length nc) ∧ W1.cell? ⟨w.heap.size, 2, none⟩ = some (.slice ra g.rules.length rac)) := fun W1 hL => by
          have h := cells_three_z ((hL.of_drew.block _ hz).trans B1.out)
          exact ⟨HB1.out.trans (Below.mono hL.of_drew HB1.out.size), h.1, h.2.1, h.2.2.1⟩
        clear hb1 B0 HC1
        go_upto_region 3 with fail
        clear g0 g1 g2 hz
        refine wp_region_lat [.val (.agg #[.slice ta g.terms.length tc, .slice na g.names.length nc, .slice ra g.rules.length rac]),
          .fact (fun v w' => ∃ no fo nnc fc H S C, v = .agg (foCells g.terms.length (g.terms.length + g.names.length) no fo nnc fc H S C g.names.length) ∧ ∃ Bs, RowsAt S (g.terms.length + g.names.length + 1) Bs (Fo.tabG g) w'),
          .fact (fun v w' => ∃ S, v = .slice (some ⟨S, 0, none⟩) g.names.length g.names.length ∧ ∃ Bs, RowsAt S (g.terms.length + g.names.length + 1) Bs (Fo.tabG g) w'),
          .val (.int .i64 s), .val (.pointer (some ⟨w.heap.size, 0, none⟩)), .val (.slice ta g.terms.length tc), .val (.int .i64 (g.terms.length : Int)), .val (.int .i64 (m : Int)),
          .fact (fun v w' => ∃ S, v = .pointer (some ⟨S, m, none⟩) ∧ ∃ Bs, RowsAt S (g.terms.length + g.names.length + 1) Bs (Fo.tabG g) w'),
          .fact (fun v w' => ∃ B, v = .slice (some ⟨B, 0, none⟩) (g.terms.length + g.names.length + 1) (g.terms.length + g.names.length + 1) ∧ BoolsAt w'.heap.size w' (some ⟨B, 0, none⟩) ((Fo.tabG g).getD m [])),
          .fact (fun v w' => ∃ xo xc, v = .slice xo (Fo.ofN g s).length xc ∧ IntsAt w'.heap.size w' xo (Fo.ofN g s)),
          .fact (fun v w' => ∃ xo xc, v = .slice xo (Fo.ofN g s).length xc ∧ IntsAt w'.heap.size w' xo (Fo.ofN g s)),
          .val (.int .i64 0)] [] (by kernel_rfl) (by kernel_rfl) rfl ?kept ?walk
        case kept => exact ⟨fun v w1 w2 hL ⟨no, fo, nnc, fc, H, S, C, e, Bs, h⟩ => ⟨no, fo, nnc, fc, H, S, C, e, Bs, h.later hL⟩, fun v w1 w2 hL ⟨S, e, Bs, h⟩ => ⟨S, e, Bs, h.later hL⟩, fun v w1 w2 hL ⟨S, e, Bs, h⟩ => ⟨S, e, Bs, h.later hL⟩, fun v w1 w2 hL ⟨B, e, h⟩ => ⟨B, e, BoolsAt.size (BoolsAt.later h hL)⟩, fun v w1 w2 hL ⟨xo, xc, e, h⟩ => ⟨xo, xc, e, IntsAt.size (IntsAt.later h hL)⟩, fun v w1 w2 hL ⟨xo, xc, e, h⟩ => ⟨xo, xc, e, IntsAt.size (IntsAt.later h hL)⟩, trivial⟩
        case walk =>
          refine wpFacts_val (by rfl) (fun w1 hL hd K hK => ?_) ?_
          · obtain ⟨_, c0, c1, c2⟩ := HC.out w1 hL
            go_simp
            exact hK _ (Lat.refl _)
          refine wpFacts_norm (by simp only [Act.put, List.setIfInBounds_toArray, List.set_cons_zero, List.set_cons_succ]; rfl) (by simp only [List.nil_append]; rfl) ?_
          refine wpFacts_fact (by rfl) (fun w1 hL hd K hK => ?_) (fun v1 => ?_)
          · go_simp
            refine Calls.mono (HSE.out w1 (HC.out w1 hL).1) ?_
            rintro e w9 ⟨no, fo, nnc, fc, H, S, C, rfl, Bs, hE⟩
            exact hK _ _ hE.out.below ⟨no, fo, nnc, fc, H, S, C, rfl, Bs, hE.out.rs⟩
          refine wpFacts_norm (by simp only [Act.put, List.setIfInBounds_toArray, List.set_cons_zero, List.set_cons_succ]; rfl) (by simp only [List.cons_append, List.nil_append]; rfl) ?_
          refine wpFacts_fact (by rfl) (fun w1 hL hd K hK => ?_) (fun v2 => ?_)
          · obtain ⟨no, fo, nnc, fc, H, S, C, rfl, Bs, q1⟩ : ∃ no fo nnc fc H S C, v1 = .agg (foCells g.terms.length (g.terms.length + g.names.length) no fo nnc fc H S C g.names.length) ∧ ∃ Bs, RowsAt S (g.terms.length + g.names.length + 1) Bs (Fo.tabG g) w1 := hd.1
            simp only [foCells]
            go_simp
            exact hK _ _ (Lat.refl _) ⟨S, rfl, Bs, q1⟩
          refine wpFacts_norm (by simp only [Act.put, List.setIfInBounds_toArray, List.set_cons_zero, List.set_cons_succ]; rfl) (by simp only [List.cons_append, List.nil_append]; rfl) ?_
          refine wpFacts_val (by rfl) (fun w1 hL hd K hK => ?_) ?_
          · go_simp
            exact hK _ (Lat.refl _)
          refine wpFacts_norm (by simp only [Act.put, List.setIfInBounds_toArray, List.set_cons_zero, List.set_cons_succ]; rfl) (by simp only [List.cons_append, List.nil_append]; rfl) ?_
          refine wpFacts_val (by rfl) (fun w1 hL hd K hK => ?_) ?_
          · go_simp
            exact hK _ (Lat.refl _)
          refine wpFacts_norm (by simp only [Act.put, List.setIfInBounds_toArray, List.set_cons_zero, List.set_cons_succ]; rfl) (by simp only [List.cons_append, List.nil_append]; rfl) ?_
          refine wpFacts_val (by rfl) (fun w1 hL hd K hK => ?_) ?_
          · obtain ⟨_, c0, c1, c2⟩ := HC.out w1 hL
            go_simp
            exact hK _ (Lat.refl _)
          refine wpFacts_norm (by simp only [Act.put, List.setIfInBounds_toArray, List.set_cons_zero, List.set_cons_succ]; rfl) (by simp only [List.cons_append, List.nil_append]; rfl) ?_
          refine wpFacts_val (by rfl) (fun w1 hL hd K hK => ?_) ?_
          · go_simp
            exact hK _ (Lat.refl _)
          refine wpFacts_norm (by simp only [Act.put, List.setIfInBounds_toArray, List.set_cons_zero, List.set_cons_succ]; rfl) (by simp only [List.cons_append, List.nil_append]; rfl) ?_
          refine wpFacts_val (by rfl) (fun w1 hL hd K hK => ?_) ?_
          · go_simp
            exact hK _ (Lat.refl _)
          refine wpFacts_norm (by simp only [Act.put, List.setIfInBounds_toArray, List.set_cons_zero, List.set_cons_succ]; rfl) (by simp only [List.cons_append, List.nil_append]; rfl) ?_
          refine wpFacts_fact (by rfl) (fun w1 hL hd K hK => ?_) (fun v8 => ?_)
          · obtain ⟨S, rfl, Bs, q1⟩ : ∃ S, v2 = .slice (some ⟨S, 0, none⟩) g.names.length g.names.length ∧ ∃ Bs, RowsAt S (g.terms.length + g.names.length + 1) Bs (Fo.tabG g) w1 := hd.1
            go_simp
            exact hK _ _ (Lat.refl _) ⟨S, rfl, Bs, q1⟩
          refine wpFacts_norm (by simp only [Act.put, List.setIfInBounds_toArray, List.set_cons_zero, List.set_cons_succ]; rfl) (by simp only [List.cons_append, List.nil_append]; rfl) ?_
          refine wpFacts_fact (by rfl) (fun w1 hL hd K hK => ?_) (fun v9 => ?_)
          · obtain ⟨S, rfl, Bs, q1⟩ : ∃ S, v8 = .pointer (some ⟨S, m, none⟩) ∧ ∃ Bs, RowsAt S (g.terms.length + g.names.length + 1) Bs (Fo.tabG g) w1 := hd.1
            have hmB : m < Bs.length := by rw [q1.len, (Fo.tabG_shape g).len]; exact hmN
            have c0 := q1.head m hmB
            have BA : Hid (BoolsAt w1.heap.size w1 (some ⟨Bs[m], 0, none⟩) ((Fo.tabG g).getD m [])) := q1.bools m hmB
            clear q1
            go_simp
            exact hK _ _ (Lat.refl _) ⟨_, rfl, BA.out⟩
          refine wpFacts_norm (by simp only [Act.put, List.setIfInBounds_toArray, List.set_cons_zero, List.set_cons_succ]; rfl) (by simp only [List.cons_append, List.nil_append]; rfl) ?_
          refine wpFacts_fact (by rfl) (fun w1 hL hd K hK => ?_) (fun v10 => ?_)
          · obtain ⟨B, rfl, q1⟩ : ∃ B, v9 = .slice (some ⟨B, 0, none⟩) (g.terms.length + g.names.length + 1) (g.terms.length + g.names.length + 1) ∧ BoolsAt w1.heap.size w1 (some ⟨B, 0, none⟩) ((Fo.tabG g).getD m []) := hd.1
            have hlk : ((Fo.tabG g).getD m []).length = g.terms.length + g.names.length + 1 := by
              have hml : m < (Fo.tabG g).length := by rw [(Fo.tabG_shape g).len]; exact hmN
              have : (Fo.tabG g).getD m [] = (Fo.tabG g)[m] := by simp [List.getD_eq_getElem?_getD, hml]
              rw [this]; exact (Fo.tabG_shape g).each _ (List.getElem_mem hml)
            have HR := frising_any _ (some ⟨B, 0, none⟩) (g.terms.length + g.names.length + 1) w1 q1 (by omega)
            rw [hlk, ← R.out] at HR
            have HR1 : Hid _ := HR
            clear HR q1 hlk
            go_simp
            refine Calls.mono HR1.out ?_
            rintro e w9 ⟨v, rfl, ho, hb9⟩
            obtain ⟨xo, xc, rfl, hx, _⟩ := OwnInts.read ho.out
            exact hK _ _ hb9.out ⟨xo, xc, rfl, hx⟩
          refine wpFacts_norm (by simp only [Act.put, List.setIfInBounds_toArray, List.set_cons_zero, List.set_cons_succ]; rfl) (by simp only [List.cons_append, List.nil_append]; rfl) ?_
          refine wpFacts_fact (by rfl) (fun w1 hL hd K hK => ?_) (fun v11 => ?_)
          · obtain ⟨xo, xc, rfl, q1⟩ : ∃ xo xc, v10 = .slice xo (Fo.ofN g s).length xc ∧ IntsAt w1.heap.size w1 xo (Fo.ofN g s) := hd.1
            go_simp
            exact hK _ _ (Lat.refl _) ⟨xo, xc, rfl, q1⟩
          refine wpFacts_norm (by simp only [Act.put, List.setIfInBounds_toArray, List.set_cons_zero, List.set_cons_succ]; rfl) (by simp only [List.cons_append, List.nil_append]; rfl) ?_
          refine wpFacts_val (by rfl) (fun w1 hL hd K hK => ?_) ?_
          · go_simp
            exact hK _ (Lat.refl _)
          refine wpFacts_norm (by simp only [Act.put, List.setIfInBounds_toArray, List.set_cons_zero, List.set_cons_succ]; rfl) (by simp only [List.cons_append, List.nil_append]; rfl) ?_
          intro w4 hL ha
          obtain ⟨xo, xc, rfl, q1⟩ : ∃ xo xc, v11 = .slice xo (Fo.ofN g s).length xc ∧ IntsAt w4.heap.size w4 xo (Fo.ofN g s) := allHold_get 11 ha rfl rfl
          clear ha
          have HQ : Hid _ := q1
          have HBE : Hid (Below w.heap.size w w4) := (HC.out w4 hL).1
          clear q1 hL HC B1
          go_wp2_with fail
          go_ret2
          exact ⟨xo, xc, by rw [RK.out]; rfl, HQ.out, HBE.out⟩

/-- bools in a row of one's own -/
def OwnBls (base : Nat) (w : World) (v : Value) (xs : List Bool) : Prop := w.ownsRow base 4 1 v xs.length (xs.map .bool)
theorem OwnBls.read {base : Nat} {w : World} {v : Value} {xs : List Bool} (h : OwnBls base w v xs) : ∃ ao c, v = .slice ao xs.length c ∧ BoolsAt w.heap.size w ao xs := by
  have h' : w.ownsRow base 4 1 v (xs.map Value.bool).length (xs.map .bool) := by rw [List.length_map]; exact h
  obtain ⟨ao, c, rfl, h1, h2, h3, h4⟩ := CellsAt.own h'
  rw [List.length_map]
  exact ⟨ao, c, rfl, h1⟩
theorem wpList_append_obool {ops : Array Oper} {rest : List Oper} {o : Oper} {a : Act} {Q : Exit → Act → World → Prop} {w : World} (hw : Region.wanted o (yielded ops a.tmps) = true) (s x : Operand)
    (ho : o.op = .call { callee := .builtin .append, args := #[s, x], argTypes := #[35, 35] }) (base : Nat) (v : Value) (xs : List Bool) (hs : a.eval s = v) (hown : OwnBls base w v xs)
    (b c : Nat) (u : Bool) (hx : a.eval x = .slice (some ⟨b, 0, none⟩) 1 c) (hnews : w.cell? ⟨b, 0, none⟩ = some (.bool u))
    (hb : xs.length + 1 ≤ 8000) (hbase : base ≤ w.heap.size)
    (h : ∀ g cap w', OwnBls base w' (.slice (some ⟨g, 0, none⟩) (xs.length + 1) cap) (xs ++ [u]) → w.grownBy w' v.ownBlock → wpList Tryz.prog ops Q rest (a.put o.dst (.slice (some ⟨g, 0, none⟩) (xs.length + 1) cap)) w') : wpList Tryz.prog ops Q (o :: rest) a w := by
  obtain ⟨iA, hi, hz0, hz1, hz2⟩ := info_parts Tryz.infoBl6
  refine wpList_wanted hw fun K hK => wp_append_lies _ s x 35 ho base 4 iA _ 1 1 Tryz.underlying35 hi hz0 hz1 hz2 rfl (by decide) v xs.length (xs.map .bool) hs hown ⟨b, 0, none⟩ 1 c [.bool u] hx rfl ?_ (by simp [Value.oneCell']) (by decide) (by unfold maxLen; omega) (by omega) hbase _ rfl
    (fun g cap w' g2 g3 g4 _ => hK _ _ (h g cap w' (by unfold OwnBls; rw [List.length_append, List.map_append]; exact g2) g3))
  intro j y hj
  cases j with
  | zero => simp at hj; subst hj; simpa [addr_zero_add] using hnews
  | succ j => simp at hj
end Go.Proofs.YtdocbgfpnaiijaaGreat

namespace Go.Proofs.YtdocbgfpnaiijaaGreat
open Go.RowKit Go.Conc

theorem ownBls_below {base : Nat} {w w' : World} {v : Value} {xs : List Bool} (h : OwnBls base w v xs) (hb : Below w.heap.size w w') : OwnBls base w' v xs := ownsRow_below h hb
theorem Fo.last_step (ts : List (List Bool)) (n k : Nat) (h : k < ts.length) : (ts.take (k + 1)).map (fun r => r.getD n false) = (ts.take k).map (fun r => r.getD n false) ++ [(ts.getD k []).getD n false] := by
  rw [List.take_add_one, List.getElem?_eq_getElem h, List.map_append]
  simp [List.getD_eq_getElem?_getD, h]

set_option maxRecDepth 100000 in
set_option maxHeartbeats 3200000 in
theorem folast_is (g : Gr.Gm) (A : GA) (w : World) (hm : ∀ x ∈ g.rules, x.2.length ≤ maxLen) (h : GmAt w.heap.size w g A) :
    Calls Tryz.prog 13 #[.agg (gmCells g A)] w fun e w' => ∃ xo xc, e = .returned (.slice xo (Fo.lastG g).length xc) ∧ Hid (BoolsAt w'.heap.size w' xo (Fo.lastG g)) ∧ Hid (Below w.heap.size w w') := by
  obtain ⟨ta, tc, na, nc, ra, rac⟩ := A
  have HG : Hid (GmAt w.heap.size w g ⟨ta, tc, na, nc, ra, rac⟩) := h
  have HGD : Hid (∀ (r : Bool) (W : World), Below w.heap.size w W → Gr.good g = r → Calls Tryz.prog 27 #[.agg (gmCells g ⟨ta, tc, na, nc, ra, rac⟩)] W fun e w' => e = .returned (.bool r) ∧ Below W.heap.size W w') := fun r W hW hr => good_is r g _ W hm (h.next hW) hr
  have hbW : Hid (Below w.heap.size w (w.alloc (Obj.cells #[.slice ta g.terms.length tc, .slice na g.names.length nc, .slice ra g.rules.length rac] 25))) := (Below.refl _ w).alloc (Nat.le_refl _) _
  have B0 : Hid ((w.alloc (Obj.cells #[.slice ta g.terms.length tc, .slice na g.names.length nc, .slice ra g.rules.length rac] 25)).heap[w.heap.size]? = some (.cells #[.slice ta g.terms.length tc, .slice na g.names.length nc, .slice ra g.rules.length rac] 25 (0, 0))) := heap_alloc_new w _
  clear h
  cases hg : Gr.good g
  · have R : Hid (Fo.lastG g = []) := by show _ = _; simp [Fo.lastG, hg]
    have HC1 : Hid (∀ _ : Unit, _) := fun _ => HGD.out false _ hbW.out hg
    clear HGD hm
    simp only [gmCells] at HC1 ⊢
    go_enter Tryz.func13, Tryz.ntmps13
    go_wp2_with (go_at_call 27; refine (HC1.out ()).mono ?_; rintro e w1 ⟨rfl, hb1⟩)
    go_ret
    refine ⟨none, 0, by rw [R.out]; rfl, ?_, hbW.out.trans (hb1.mono hbW.out.size)⟩
    rw [R.out]; exact CellsAt.nil
  · have hsz := (Nl.sizes_of hg).1
    obtain ⟨M, hM⟩ : ∃ M, g.terms.length + g.names.length = M := ⟨_, rfl⟩
    have HC1 : Hid (∀ _ : Unit, _) := fun _ => HGD.out true _ hbW.out hg
    have R : Hid (Fo.lastG g = (Fo.tabG g).map (fun r => r.getD M false)) := by show _ = _; simp [Fo.lastG, hg, hM]
    have HSE : Hid (∀ W : World, Below w.heap.size w W → _) := fun W hW => fosettled_any g ⟨ta, tc, na, nc, ra, rac⟩ M W hM hg hm (HG.out.next hW)
    clear HGD hm
    simp only [gmCells] at HC1 HSE ⊢
    go_enter Tryz.func13, Tryz.ntmps13
    go_wp2_with (go_at_call 27; fail)
    generalize (w.alloc (Obj.cells #[.slice ta g.terms.length tc, .slice na g.names.length nc, .slice ra g.rules.length rac] 25)) = W at *
    refine (HC1.out ()).mono ?_
    rintro e w1 ⟨rfl, hb1⟩
    have HB1 : Hid (Below w.heap.size w w1) := hbW.out.trans (hb1.mono hbW.out.size)
    have B1 : Hid _ := (hb1.block _ (Array.getElem?_eq_some_iff.1 B0.out).1).trans B0.out
    obtain ⟨g0, g1, g2, _⟩ := cells_three_z B1.out
    have hz := (Array.getElem?_eq_some_iff.1 B1.out).1
    clear hb1 B0 HC1
    go_wp2_with (go_at_call 28; fail)
    refine Calls.mono (HSE.out _ HB1.out) ?_
    rintro e w2 ⟨no, fo, nnc, fc, H, S, C, rfl, Bs, hE⟩
    have hb2 : Hid (Below w2.heap.size w2 (w2.alloc (Obj.cells #[.int .i64 (g.terms.length : Int), .int .i64 (M : Int), .slice no M nnc, .slice fo M fc, .slice (some ⟨H, 0, none⟩) g.names.length g.names.length, .slice (some ⟨S, 0, none⟩) g.names.length g.names.length, .chan (some C)] 57))) := (Below.refl _ w2).alloc (Nat.le_refl _) _
    have sb3 : Hid ((w2.alloc (Obj.cells #[.int .i64 (g.terms.length : Int), .int .i64 (M : Int), .slice no M nnc, .slice fo M fc, .slice (some ⟨H, 0, none⟩) g.names.length g.names.length, .slice (some ⟨S, 0, none⟩) g.names.length g.names.length, .chan (some C)] 57)).heap[w2.heap.size]? = some (.cells #[.int .i64 (g.terms.length : Int), .int .i64 (M : Int), .slice no M nnc, .slice fo M fc, .slice (some ⟨H, 0, none⟩) g.names.length g.names.length, .slice (some ⟨S, 0, none⟩) g.names.length g.names.length, .chan (some C)] 57 (0, 0))) := heap_alloc_new w2 _
    have HB3 : Hid (Below w.heap.size w (w2.alloc (Obj.cells #[.int .i64 (g.terms.length : Int), .int .i64 (M : Int), .slice no M nnc, .slice fo M fc, .slice (some ⟨H, 0, none⟩) g.names.length g.names.length, .slice (some ⟨S, 0, none⟩) g.names.length g.names.length, .chan (some C)] 57))) := (HB1.out.trans (hE.out.below.mono HB1.out.size)).trans (hb2.out.mono (HB1.out.trans (hE.out.below.mono HB1.out.size)).size)
    have HR : Hid (RowsAt S (M + 1) Bs (Fo.tabG g) (w2.alloc (Obj.cells #[.int .i64 (g.terms.length : Int), .int .i64 (M : Int), .slice no M nnc, .slice fo M fc, .slice (some ⟨H, 0, none⟩) g.names.length g.names.length, .slice (some ⟨S, 0, none⟩) g.names.length g.names.length, .chan (some C)] 57))) := hE.out.rs.later hb2.out
    clear hE HSE g0 g1 g2 hz B1 hb2
    simp only [foCells]
    go_upto_region 4 with fail
    generalize (w2.alloc (Obj.cells #[.int .i64 (g.terms.length : Int), .int .i64 (M : Int), .slice no M nnc, .slice fo M fc, .slice (some ⟨H, 0, none⟩) g.names.length g.names.length, .slice (some ⟨S, 0, none⟩) g.names.length g.names.length, .chan (some C)] 57)) = w3 at *
    generalize w2.heap.size = X at *
    have hBl : Bs.length = g.names.length := by rw [HR.out.len, (Fo.tabG_shape g).len]
    have htl : (Fo.tabG g).length = g.names.length := (Fo.tabG_shape g).len
    generalize hts : Fo.tabG g = ts at *
    obtain ⟨⟨c0, c1, c2, c3, c4, c5, c6⟩, _⟩ := cells_seven_z sb3.out
    have hbl := (Array.getElem?_eq_some_iff.1 sb3.out).1
    go_wp2_with fail
    clear c0 c1 c2 c3 c4 c5 c6
    generalize hnn : g.names.length = n at *
    go_loopw [4, 15] (fun l i wr => ∃ (k : Nat) (xo : Option Addr) (xc : Nat), k ≤ n ∧ i = .int .i64 k ∧ l = .slice xo k xc ∧ Hid (OwnBls w3.heap.size wr (.slice xo k xc) ((ts.take k).map (fun r => r.getD M false))) ∧ Hid (Below w3.heap.size w3 wr)) (fun _ i _ => n - (intOf i).toNat)
    case atStart => exact ⟨0, none, 0, Nat.zero_le _, rfl, rfl, World.ownsRow_nil _ _ _ _, Below.refl _ _⟩
    case round =>
      obtain ⟨k, xo, xc, hk, rfl, rfl, hO, hbk⟩ := hrel
      have sb4 : Hid (wr.heap[X]? = some (.cells #[.int .i64 (g.terms.length : Int), .int .i64 (M : Int), .slice no M nnc, .slice fo M fc, .slice (some ⟨H, 0, none⟩) n n, .slice (some ⟨S, 0, none⟩) n n, .chan (some C)] 57 (0, 0))) := (hbk.out.block _ (Array.getElem?_eq_some_iff.1 sb3.out).1).trans sb3.out
      obtain ⟨⟨c0, c1, c2, c3, c4, c5, c6⟩, _⟩ := cells_seven_z sb4.out
      have hbl4 := (Array.getElem?_eq_some_iff.1 sb4.out).1
      by_cases hkl : k < n
      · have hki : (k : Int) < (n : Int) := by omega
        have hkB : k < Bs.length := by omega
        have cS := (HR.out.later hbk.out).head k hkB
        have hSl := (HR.out.later hbk.out).lt.1
        have cE := ((HR.out.later hbk.out).cell k M hkB (by omega)).1
        have hBl2 := (HR.out.later hbk.out).lt.2 _ (List.getElem_mem hkB)
        have hhs : Fi.has ts (k : Int) (M : Int) = (ts.getD k []).getD M false := by simp [Fi.has, Fi.row, Nl.isAt]
        rw [hhs] at cE
        have hMI : (M : Int) < (M : Int) + 1 := by omega
        have ST : Hid _ := Fo.last_step ts M k (by omega)
        have HLN : Hid (((ts.take k).map (fun r => r.getD M false)).length = k) := by
          show _ = _; rw [List.length_map, List.length_take]; omega
        clear hhs
        generalize (ts.take k).map (fun r => r.getD M false) = xs at *
        generalize (ts.getD k []).getD M false = u at *
        generalize Bs[k] = B at *
        have hb7 : Hid (Below wr.heap.size wr (wr.alloc (Obj.cells #[.bool u] 4))) := (Below.refl _ wr).alloc (Nat.le_refl _) _
        have HO7 : Hid (OwnBls w3.heap.size (wr.alloc (Obj.cells #[.bool u] 4)) (.slice xo k xc) xs) := ownBls_below hO.out hb7.out
        have HB7 : Hid (Below w3.heap.size w3 (wr.alloc (Obj.cells #[.bool u] 4))) := hbk.out.trans (hb7.out.mono hbk.out.size)
        have hbase := HB7.out.size
        clear hO hb7
        go_wp2_with (at_builtin; refine wpList_append_obool rfl _ _ rfl w3.heap.size _ xs rfl HO7.out wr.heap.size 1 u rfl (by simp [go_sem]) (by rw [HLN.out]; omega) hbase ?_; intro ga cap w8 ho8 hg8)
        have HB8 : Hid (Below w3.heap.size w3 w8) := HB7.out.grown hg8 hbase (fun k hk => (World.ownsRow.lt HO7.out k hk).1)
        have HO8 : Hid (OwnBls w3.heap.size w8 (.slice (some ⟨ga, 0, none⟩) (k + 1) cap) ((ts.take (k + 1)).map (fun r => r.getD M false))) := by
          show OwnBls _ _ _ _
          rw [ST.out]; rw [HLN.out] at ho8; exact ho8
        rw [HLN.out]
        clear ho8 hg8 HO7 HB7 hbk c0 c1 c2 c3 c4 c5 c6 cS cE sb4
        go_roundw
        case rel => exact ⟨k + 1, _, _, by omega, by go_num, rfl, HO8, HB8⟩
        case measure => simp [intOf]; omega
      · obtain rfl : k = n := by omega
        have hki : ¬ (k : Int) < (k : Int) := by omega
        have hfin : ts.take k = ts := List.take_of_length_le (by omega)
        have hlm : (ts.map (fun r => r.getD M false)).length = k := by rw [List.length_map]; omega
        have RL : Hid ((Fo.lastG g).length = k) := by show _ = _; rw [R.out]; exact hlm
        have RD : Hid (BoolsAt wr.heap.size wr xo (Fo.lastG g)) := by
          have h0 := hO.out
          rw [hfin] at h0
          obtain ⟨ao, c, e, h1⟩ := h0.read
          simp only [Value.slice.injEq] at e
          obtain ⟨rfl, _⟩ := e
          show BoolsAt _ _ _ _
          rw [R.out]; exact h1
        clear hO hlm hfin c0 c1 c2 c3 c4 c5 c6
        go_wp2_with fail
        go_ret
        exact ⟨xo, ⟨xc, by rw [RL.out]; rfl⟩, RD, HB3.out.trans (hbk.out.mono HB3.out.size)⟩
end Go.Proofs.YtdocbgfpnaiijaaGreat
