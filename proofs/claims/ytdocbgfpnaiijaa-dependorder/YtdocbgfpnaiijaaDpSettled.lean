/-
  Layer 10 (depend): settled: a search that has followed up all links.
-/
import Derived.Test.YtdocbgfpnaiijaaDpBegun
namespace Go.Proofs.Ytdocbgfpnaiijaa
open Go.RowKit Go.Conc

/-- the search in memory -/
structure DpCo (N H S C : Nat) (Bs : List Nat) (vs : List Value) (hs : List (List Int)) (st : Fi.St) (w w' : World) : Prop where
  below : Below w.heap.size w w'
  lt : w.heap.size ≤ C ∧ ∀ b ∈ Bs, w.heap.size ≤ b
  hei : LAt w.heap.size H vs hs w'
  at' : GAt S C N (N * N) Bs st w'
theorem DpS.core {lk : List (Int × Int)} {N H S C : Nat} {Bs : List Nat} {vs : List Value} {hs : List (List Int)} {st : Fi.St} {w W w' : World} (h : DpS lk N H S C Bs vs hs st W w') (hW : Below w.heap.size w W) : DpCo N H S C Bs vs hs st w w' :=
  ⟨hW.trans (h.below.mono hW.size), ⟨Nat.le_trans hW.size h.lt.1, fun b hb => Nat.le_trans hW.size (h.lt.2 b hb)⟩, h.hei.from hW.size, h.at'⟩
theorem DpCo.later {N H S C : Nat} {Bs : List Nat} {vs : List Value} {hs : List (List Int)} {st : Fi.St} {w W W' : World} (h : DpCo N H S C Bs vs hs st w W) (hb : Below W.heap.size W W') : DpCo N H S C Bs vs hs st w W' :=
  ⟨h.below.trans (hb.mono h.below.size), h.lt, h.hei.later hb, h.at'.later hb⟩
theorem DpCo.step {N H S C : Nat} {Bs : List Nat} {vs : List Value} {hs : List (List Int)} {st st' : Fi.St} {w W W' : World} (h : DpCo N H S C Bs vs hs st w W) (hb : ButL (C :: Bs) W W') (hg : GAt S C N (N * N) Bs st' W') : DpCo N H S C Bs vs hs st' w W' := by
  obtain ⟨s, r, hch⟩ := h.at'.ch
  refine ⟨h.below.trans (hb.below (fun k hk => ?_) h.below.size), h.lt, h.hei.butL hb fun q hq cs fr e => ?_, hg⟩
  · rcases List.mem_cons.1 hk with hk | hk
    · rw [hk]; exact h.lt.1
    · exact h.lt.2 k hk
  · rcases List.mem_cons.1 hq with hq | hq
    · rw [hq] at e
      rcases e with e | e <;> rw [hch] at e <;> cases e
    · obtain ⟨i, hi, rfl⟩ := List.getElem_of_mem hq
      have hr := h.at'.rs.row i hi
      rcases e with e | e <;> rw [hr] at e
      · exact absurd (Obj.cells.inj (Option.some.inj e)).2.1 (by decide)
      · exact absurd (Obj.cells.inj (Option.some.inj e)).2.1 (by decide)
theorem DpCo.not {N H S C : Nat} {Bs : List Nat} {vs : List Value} {hs : List (List Int)} {st : Fi.St} {w W : World} (h : DpCo N H S C Bs vs hs st w W) {X : Nat} {cs : Array Value} {t : TypeId} {fr : Nat × Nat} (hX : W.heap[X]? = some (.cells cs t fr)) (ht : t ≠ 4) : X ∉ C :: Bs := by
  intro q
  rcases List.mem_cons.1 q with q | q
  · obtain ⟨s, r, hch⟩ := h.at'.ch
    rw [← q, hX] at hch; cases hch
  · obtain ⟨i, hi, e⟩ := List.getElem_of_mem q
    have hr := h.at'.rs.row i hi
    rw [e, hX] at hr
    exact ht (Obj.cells.inj (Option.some.inj hr)).2.1
/-- amid the search -/
structure DpV (N H S C X : Nat) (Bs : List Nat) (vs : List Value) (hs : List (List Int)) (st : Fi.St) (w W : World) : Prop where
  core : DpCo N H S C Bs vs hs st w W
  sb : W.heap[X]? = some (.cells (dpC H S C N) 71 (0, 0))
  rb : W.heap[w.heap.size + 1]? = some (.cells #[.slice none 0 0, .slice none 0 0, .chan none] 71 (0, 0))
/-- what hangs on what, by these links -/
noncomputable def Dp.tabL (lk : List (Int × Int)) (N : Nat) : List (List Bool) := Fo.tab (Fo.Reach (fun a v => (a, v) ∈ lk) (fun a b => (b, a) ∈ lk)) N N
/-- a settled search -/
structure DpE (lk : List (Int × Int)) (N : Nat) (S : Nat) (Bs : List Nat) (w w' : World) : Prop where
  below : Below w.heap.size w w'
  rs : RowsAt S N Bs (Dp.tabL lk N) w'

set_option maxRecDepth 100000 in
set_option maxHeartbeats 6400000 in
theorem dsettled_any (g : Gr.Gm) (A : GA) (l : List (Int × Int)) (lo : Option Addr) (lc : Nat) (w : World) (hg : Gr.good g = true) (h : GmAt w.heap.size w g A) (hl : SpotsAt w.heap.size w lo l) (h480 : l.length ≤ 480)
    (hin : ∀ s ∈ l, ∃ r, ∃ hr : r < g.rules.length, ∃ k, ∃ hk : k < g.rules[r].2.length, (g.terms.length : Int) ≤ g.rules[r].2[k] ∧ s = ((r : Int), (k : Int))) :
    Calls Try.prog 42 #[.agg (gmCells g A), .slice lo l.length lc] w fun e w' => ∃ H S C, e = .returned (.agg (dpC H S C g.names.length)) ∧ ∃ Bs, Hid (DpE (l.map (Dp.link g.terms.length g.rules)) g.names.length S Bs w w') := by
  obtain ⟨ta, tc, na, nc, ra, rac⟩ := A
  have HG : Hid (GmAt w.heap.size w g ⟨ta, tc, na, nc, ra, rac⟩) := h
  have HLO : Hid (SpotsAt w.heap.size w lo l) := hl
  have hsz := (Nl.sizes_of hg).1
  have HLT : Hid (∀ a b : Int, (b, a) ∈ (l.map (Dp.link g.terms.length g.rules)) → (0 ≤ a ∧ a < g.names.length) ∧ 0 ≤ b ∧ b < g.names.length) := fun a b q => by
    obtain ⟨s, hs, e⟩ := List.mem_map.1 q
    obtain ⟨r, hr, k, hk, hxT, rfl⟩ := hin s hs
    rw [Dp.link_at hr hk] at e
    obtain ⟨rfl, rfl⟩ := Prod.mk.inj e
    have hm : g.rules[r] ∈ g.rules := List.getElem_mem hr
    have hlf := (Nl.fit_of hg).left _ hm
    have hxf := (Nl.fit_of hg).right _ hm _ (List.getElem_mem hk)
    omega
  have HBG : Hid (∀ W : World, Below w.heap.size w W → Calls Try.prog 67 #[.agg (gmCells g ⟨ta, tc, na, nc, ra, rac⟩), .slice lo l.length lc] W fun e w' => ∃ H S C, e = .returned (.agg (dpC H S C g.names.length)) ∧ ∃ Bs vs hs st, Hid (DpS (l.map (Dp.link g.terms.length g.rules)) g.names.length H S C Bs vs hs st W w')) := fun W hW => dbegun_any g _ l lo lc W hg (HG.out.next hW) (HLO.out.next hW) h480 hin
  have hB : Hid (Below w.heap.size w ((w.alloc (Obj.cells #[.slice ta g.terms.length tc, .slice na g.names.length nc, .slice ra g.rules.length rac] 25)).alloc (Obj.cells #[.slice none 0 0, .slice none 0 0, .chan none] 71))) := ((Below.refl _ w).alloc (Nat.le_refl _) _).alloc (by simp) _
  have b0 : Hid (((w.alloc (Obj.cells #[.slice ta g.terms.length tc, .slice na g.names.length nc, .slice ra g.rules.length rac] 25)).alloc (Obj.cells #[.slice none 0 0, .slice none 0 0, .chan none] 71)).heap[w.heap.size]? = some (.cells #[.slice ta g.terms.length tc, .slice na g.names.length nc, .slice ra g.rules.length rac] 25 (0, 0))) := by
    show _ = _; rw [Below.heap_alloc _ _ _ (by simp)]; exact heap_alloc_new w _
  have b1 : Hid (((w.alloc (Obj.cells #[.slice ta g.terms.length tc, .slice na g.names.length nc, .slice ra g.rules.length rac] 25)).alloc (Obj.cells #[.slice none 0 0, .slice none 0 0, .chan none] 71)).heap[w.heap.size + 1]? = some (.cells #[.slice none 0 0, .slice none 0 0, .chan none] 71 (0, 0))) := by
    show _ = _
    have := heap_alloc_new (w.alloc (Obj.cells #[.slice ta g.terms.length tc, .slice na g.names.length nc, .slice ra g.rules.length rac] 25)) (Obj.cells #[.slice none 0 0, .slice none 0 0, .chan none] 71)
    simpa using this
  obtain ⟨M, hM⟩ : ∃ M, M + 1 = g.names.length := ⟨g.names.length - 1, by omega⟩
  have hMe : g.names.length - 1 = M := by omega
  clear h hl hin
  simp only [gmCells] at HBG ⊢
  go_enter Try.func42, Try.ntmps42
  go_wp2_with (go_at_call 67; fail)
  generalize ((w.alloc (Obj.cells #[.slice ta g.terms.length tc, .slice na g.names.length nc, .slice ra g.rules.length rac] 25)).alloc (Obj.cells #[.slice none 0 0, .slice none 0 0, .chan none] 71)) = W at *
  refine Calls.mono (HBG.out _ hB.out) ?_
  rintro e w2 ⟨H, S, C, rfl, Bs, vs, hs, st, hFS⟩
  have hC0 : Hid _ := hFS.out.core hB.out
  have hI0 : Hid (Dp.Inv (fun a v => (a, v) ∈ (l.map (Dp.link g.terms.length g.rules))) (fun a b => (b, a) ∈ (l.map (Dp.link g.terms.length g.rules))) M g.names.length (fun _ _ _ => False) st) := by
    have := hFS.out.inv
    rw [hMe] at this
    exact this
  have HH : Hid (Dp.Heirs (fun a b => (b, a) ∈ (l.map (Dp.link g.terms.length g.rules))) g.names.length hs) := hFS.out.heirs
  have HSM : Hid (∀ a : Nat, (hs.getD a []).length ≤ 480) := hFS.out.small
  have rb2 : Hid (w2.heap[w.heap.size + 1]? = some (.cells #[.slice none 0 0, .slice none 0 0, .chan none] 71 (0, 0))) := (hFS.out.below.block _ (Array.getElem?_eq_some_iff.1 b1.out).1).trans b1.out
  have HI : Hid (DpV g.names.length H S C w2.heap.size Bs vs hs st w (w2.alloc (Obj.cells #[.slice (some ⟨H, 0, none⟩) g.names.length g.names.length, .slice (some ⟨S, 0, none⟩) g.names.length g.names.length, .chan (some C)] 71))) :=
    ⟨hC0.out.later ((Below.refl _ w2).alloc (Nat.le_refl _) _), heap_alloc_new w2 _, (Below.heap_alloc _ _ _ (Array.getElem?_eq_some_iff.1 rb2.out).1).trans rb2.out⟩
  clear hFS hC0 rb2 b0 b1 HBG hMe
  simp only [dpC]
  go_upto_region 2 with fail
  generalize (w2.alloc (Obj.cells #[.slice (some ⟨H, 0, none⟩) g.names.length g.names.length, .slice (some ⟨S, 0, none⟩) g.names.length g.names.length, .chan (some C)] 71)) = W3 at *
  generalize w2.heap.size = X at *
  go_loopw [6] (fun _ wr => ∃ (st : Fi.St), Hid (DpV g.names.length H S C X Bs vs hs st w wr) ∧ Hid (Dp.Inv (fun a v => (a, v) ∈ (l.map (Dp.link g.terms.length g.rules))) (fun a b => (b, a) ∈ (l.map (Dp.link g.terms.length g.rules))) M g.names.length (fun _ _ _ => False) st)) (fun _ wr => Fo.left M g.names.length (gstOf S C wr))
  case atStart => exact ⟨st, HI, hI0⟩
  case round =>
    obtain ⟨st', hA, hJ⟩ := hrel
    clear HI hI0
    have hsb := hA.out.sb
    simp only [dpC] at hsb
    obtain ⟨c0, c1, c2, _⟩ := cells_three_z hsb
    have hbl := (Array.getElem?_eq_some_iff.1 hsb).1
    clear hsb
    obtain ⟨sn, rn, hch⟩ := hA.out.core.at'.ch
    have HCH : Hid _ := hch
    clear hch
    obtain ⟨ss, q⟩ := st'
    cases q with
    | nil =>
      go_upto_region 3 with fail
      refine wp_region_head ?_
      refine inReg_default (c := C) (cap := (g.names.length * g.names.length)) (s := sn) (r := rn) (z := .agg #[.int .i64 0, .int .i64 0]) (tm := false) rfl rfl (by simp [go_sem, execOp, rcase, Act.eval]) HCH.out ?_
      refine inReg_list ?_
      have hd : ss = Dp.tabL (l.map (Dp.link g.terms.length g.rules)) g.names.length := by
        have := hJ.out.done
        rw [hM] at this
        exact this
      have hR := hA.out.core.at'.rs
      simp only at hR
      rw [hd] at hR
      have hFE : Hid (∀ W6 : World, ButL [w.heap.size + 1] wr W6 → DpE (l.map (Dp.link g.terms.length g.rules)) g.names.length S Bs w W6) := fun W6 hW => by
        have hnr := hA.out.core.not hA.out.rb (by decide)
        refine ⟨hA.out.core.below.trans (hW.below (fun q hq => by rw [List.mem_singleton] at hq; omega) hA.out.core.below.size), hR.butL hW ?_ fun b hb e => ?_⟩
        · intro e
          rw [List.mem_singleton] at e
          have h1 := hR.sb
          rw [e, hA.out.rb] at h1
          exact absurd (Obj.cells.inj (Option.some.inj h1)).2.1 (by decide)
        · rw [List.mem_singleton] at e
          rw [e] at hb
          exact hnr (List.mem_cons_of_mem _ hb)
      obtain ⟨d0, d1, d2, z0, z1, z2⟩ := cells_three_z hA.out.rb
      have hbl2 := (Array.getElem?_eq_some_iff.1 hA.out.rb).1
      have HB6 : Hid (ButL [w.heap.size + 1] wr (((wr.setCell ⟨w.heap.size + 1, 0, none⟩ (.slice (some ⟨H, 0, none⟩) g.names.length g.names.length)).setCell ⟨w.heap.size + 1, 1, none⟩ (.slice (some ⟨S, 0, none⟩) g.names.length g.names.length)).setCell ⟨w.heap.size + 1, 2, none⟩ (.chan (some C)))) :=
        (((ButL.refl _ wr).setCell (List.mem_cons_self ..) _ _).setCell (List.mem_cons_self ..) _ _).setCell (List.mem_cons_self ..) _ _
      have k5 := gset (x := .slice (some ⟨H, 0, none⟩) g.names.length g.names.length) (y := .slice (some ⟨S, 0, none⟩) g.names.length g.names.length) (z := .chan (some C)) hA.out.rb
      clear hA hJ HCH hR hd
      go_wp2_with fail
      generalize (((wr.setCell ⟨w.heap.size + 1, 0, none⟩ (.slice (some ⟨H, 0, none⟩) g.names.length g.names.length)).setCell ⟨w.heap.size + 1, 1, none⟩ (.slice (some ⟨S, 0, none⟩) g.names.length g.names.length)).setCell ⟨w.heap.size + 1, 2, none⟩ (.chan (some C))) = W6 at *
      obtain ⟨e0, e1, e2, _⟩ := cells_three_z k5
      refine bodyPost_ret (v := .agg (dpC H S C g.names.length)) (by simp [results, Try.results42, go_sem, dpC, e0, e1, e2]) rfl ⟨H, S, C, rfl, Bs, hFE.out _ HB6.out⟩
    | cons p q =>
      obtain ⟨a, t⟩ := p
      go_upto_region 3 with fail
      refine wp_region_head ?_
      refine inReg_taken (c := C) (cap := (g.names.length * g.names.length)) (buf := (((a, t) :: q).map gainV).toArray) (s := sn) (r := rn) (z := .agg #[.int .i64 0, .int .i64 0]) (closed := false) (tm := false) rfl rfl (by simp [go_sem, execOp, rcase, Act.eval]) HCH.out (by simp) ?_
      refine inReg_list ?_
      have hnX := hA.out.core.not hA.out.sb (by decide)
      have hnR := hA.out.core.not hA.out.rb (by decide)
      have S4 : Hid _ := hA.out.core.at'.take sn (rn + 1)
      have hb4 : Hid (ButL (C :: Bs) wr (wr.setChan C (g.names.length * g.names.length) ((((a, t) :: q).map gainV).toArray.extract 1 (((a, t) :: q).map gainV).toArray.size) false sn (rn + 1) false)) := (ButL.refl _ wr).setChan (List.mem_cons_self ..) _ _ _ _ _ _
      have hx0 : (((a, t) :: q).map gainV).toArray.getD 0 undef = .agg #[.int .i64 a, .int .i64 t] := by simp [gainV]
      rw [hx0]
      generalize (wr.setChan C (g.names.length * g.names.length) ((((a, t) :: q).map gainV).toArray.extract 1 (((a, t) :: q).map gainV).toArray.size) false sn (rn + 1) false) = W4 at *
      obtain ⟨hi4, hlt4, hal, ht4, hls⟩ := hJ.out.take hM (fun a b e => (HLT.out a b e).2) HH.out
      have e1 := hA.out.core.at'.read
      have C4 : Hid _ := hA.out.core.step hb4.out S4.out
      have sb4 : Hid (W4.heap[X]? = some (.cells (dpC H S C g.names.length) 71 (0, 0))) := (hb4.out.block _ hbl hnX).trans hA.out.sb
      have rb4 : Hid _ := (hb4.out.block _ (Array.getElem?_eq_some_iff.1 hA.out.rb).1 hnR).trans hA.out.rb
      obtain ⟨MO, hMO⟩ : ∃ MO, Fo.left M g.names.length (gstOf S C wr) = MO := ⟨_, rfl⟩
      have HM0 : Hid (Fo.left M g.names.length (⟨ss, q⟩ : Fi.St) < MO) := by
        show _ < _
        rw [← hMO, e1]; exact hlt4
      have HMO : Hid (Fo.left M g.names.length (gstOf S C wr) = MO) := hMO
      clear hMO
      obtain ⟨k, rfl⟩ : ∃ k : Nat, a = k := ⟨a.toNat, by omega⟩
      have hkn : k < g.names.length := by omega
      have hvl : vs.length = g.names.length := by rw [hA.out.core.hei.len, HH.out.1]
      have hkv : k < vs.length := by omega
      simp only [Int.toNat_natCast] at hi4 hls
      obtain ⟨lo9, lc9, hvk, _⟩ := OwnInts.read (C4.out.hei.own k hkv)
      have VK : Hid (vs[k] = .slice lo9 (hs.getD k []).length lc9) := hvk
      have cL : W4.cell? ⟨H, k, none⟩ = some (.slice lo9 (hs.getD k []).length lc9) := by rw [← hvk]; exact (C4.out.hei.cell k hkv).1
      have hLl := (Array.getElem?_eq_some_iff.1 C4.out.hei.lb).1
      have HLS : Hid (∀ y ∈ hs.getD k [], (0 ≤ y ∧ y < g.names.length) ∧ Fo.Reach (fun a v => (a, v) ∈ (l.map (Dp.link g.terms.length g.rules))) (fun a b => (b, a) ∈ (l.map (Dp.link g.terms.length g.rules))) y t) := hls
      have HI4 : Hid _ := hi4
      have HT4 : Hid (0 ≤ t ∧ t < g.names.length) := ht4
      have hbn : Hid (Below W4.heap.size W4 (W4.alloc (Obj.cells #[.int .i64 (k : Int), .int .i64 t] 75))) := (Below.refl _ W4).alloc (Nat.le_refl _) _
      have P5 : Hid (DpV g.names.length H S C X Bs vs hs ⟨ss, q⟩ w (W4.alloc (Obj.cells #[.int .i64 (k : Int), .int .i64 t] 75))) :=
        ⟨C4.out.later hbn.out, (hbn.out.block _ (Array.getElem?_eq_some_iff.1 sb4.out).1).trans sb4.out, (hbn.out.block _ (Array.getElem?_eq_some_iff.1 rb4.out).1).trans rb4.out⟩
      have kn : Hid ((W4.alloc (Obj.cells #[.int .i64 (k : Int), .int .i64 t] 75)).heap[W4.heap.size]? = some (.cells #[.int .i64 (k : Int), .int .i64 t] 75 (0, 0))) := heap_alloc_new W4 _
      have hsb4 := sb4.out
      simp only [dpC] at hsb4
      clear c0 c1 c2
      obtain ⟨c0, c1, c2, _⟩ := cells_three_z hsb4
      have hbl4 := (Array.getElem?_eq_some_iff.1 hsb4).1
      clear hi4 hls hlt4 hA hJ HCH S4 hb4 hx0 e1 C4 hvk hsb4 rb4 hnX hnR hbl ht4
      have hki : (k : Int) < (g.names.length : Int) := by omega
      have hls8 := HSM.out k
      obtain ⟨ls, hlse⟩ : ∃ ls, hs.getD k [] = ls := ⟨_, rfl⟩
      rw [hlse] at HLS HI4 VK cL hls8
      have LSE : Hid (hs.getD k [] = ls) := hlse
      clear hlse
      go_wp2_with fail
      generalize (W4.alloc (Obj.cells #[.int .i64 (k : Int), .int .i64 t] 75)) = W5 at *
      generalize W4.heap.size = G at *
      go_loopw [26] (fun i wr => ∃ (m : Nat) (st : Fi.St), m ≤ ls.length ∧ i = .int .i64 m ∧ Hid (DpV g.names.length H S C X Bs vs hs st w wr) ∧ Hid (wr.heap[G]? = some (.cells #[.int .i64 (k : Int), .int .i64 t] 75 (0, 0))) ∧ Hid (Dp.Inv (fun a v => (a, v) ∈ (l.map (Dp.link g.terms.length g.rules))) (fun a b => (b, a) ∈ (l.map (Dp.link g.terms.length g.rules))) M g.names.length (fun _ u y => u = t ∧ y ∈ ls.drop m) st) ∧ Hid (Fo.left M g.names.length st ≤ Fo.left M g.names.length ⟨ss, q⟩)) (fun i _ => ls.length - (intOf i).toNat)
      case atStart => exact ⟨0, _, Nat.zero_le _, rfl, P5, kn, HI4, Nat.le_refl _⟩
      case round =>
        obtain ⟨m, st, hm, rfl, hA, hG, hJ, hL⟩ := hrel
        clear P5 kn HI4 c0 c1 c2 cL sb4
        by_cases hml : m < ls.length
        · have how := hA.out.core.hei.own k hkv
          rw [LSE.out] at how
          obtain ⟨lo2, lc2, e2, rd, _⟩ := OwnInts.read how
          clear how
          rw [VK.out] at e2
          obtain ⟨rfl, rfl⟩ : lo9 = lo2 ∧ lc9 = lc2 := by
            simp only [Value.slice.injEq] at e2
            exact ⟨e2.1, e2.2.2⟩
          obtain ⟨lb, lof, rfl, _, _, l0⟩ := IntsAt.get rd m hml
          obtain ⟨y0, hbg⟩ := HLS.out _ (List.getElem_mem hml)
          obtain ⟨j2, L2, hrm⟩ := hJ.out.again hM hml y0 HT4.out hbg
          have J2 : Hid _ := j2
          have hnX := hA.out.core.not hA.out.sb (by decide)
          have hnR := hA.out.core.not hA.out.rb (by decide)
          have hnG := hA.out.core.not hG.out (by decide)
          have HX : Hid (X ∉ C :: Bs ∧ w.heap.size + 1 ∉ C :: Bs ∧ G ∉ C :: Bs) := ⟨hnX, hnR, hnG⟩
          have HGR : Hid _ := dfind_N g.names.length M hM st S C (g.names.length * g.names.length) H Bs ls[m] t wr hA.out.core.at' hJ.out.ok.shape.len y0 HT4.out (fun q => by have := hrm q; rw [hM] at this; exact this)
          have HL2 : Hid _ := Nat.le_trans L2 hL.out
          have hsb6 := hA.out.sb
          simp only [dpC, gainV] at hsb6 HGR
          obtain ⟨c0, c1, c2, _⟩ := cells_three_z hsb6
          obtain ⟨g0, g1, _⟩ := cells_two_z hG.out
          have hb6l := (Array.getElem?_eq_some_iff.1 hsb6).1
          have hg6l := (Array.getElem?_eq_some_iff.1 hG.out).1
          clear rd e2 hJ hbg L2 hrm hsb6 hnX hnR hnG j2
          generalize ls[m] = y at *
          go_wp2_with (go_at_call 68; refine Calls.mono HGR.out ?_; rintro e w5 ⟨rfl, hb5, hs5⟩)
          have N1 : Hid (DpV g.names.length H S C X Bs vs hs (Fi.grow st y t) w w5) :=
            ⟨hA.out.core.step hb5.out hs5.out, (hb5.out.block _ hb6l HX.out.1).trans hA.out.sb, (hb5.out.block _ (Array.getElem?_eq_some_iff.1 hA.out.rb).1 HX.out.2.1).trans hA.out.rb⟩
          have N2 : Hid _ := (hb5.out.block _ hg6l HX.out.2.2).trans hG.out
          clear c0 c1 c2 g0 g1 l0 HGR hb5 hs5 hA hG hL
          go_roundw
          case rel => exact ⟨m + 1, _, by omega, by go_num, N1, N2, J2, HL2⟩
          case measure => simp [intOf]; omega
        · obtain rfl : m = ls.length := by omega
          have J2 : Hid _ := hJ.out.rest
          have e2 := hA.out.core.at'.read
          have HMM : Hid (Fo.left M g.names.length (gstOf S C wr) < MO) := by
            show _ < _
            rw [e2]
            exact Nat.lt_of_le_of_lt hL.out HM0.out
          clear hJ hG hL e2
          go_wp2_with fail
          go_roundw
          case rel => exact ⟨st, hA, J2⟩
          case measure => exact Nat.lt_of_lt_of_eq HMM.out HMO.out.symm
end Go.Proofs.Ytdocbgfpnaiijaa
