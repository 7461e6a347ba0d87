/-
  Layer 8 (first): settled: a search that has followed up all gains.
-/
import Derived.Test.YtdjjconccneaiaaGreatFiBegun
namespace Go.Proofs.YtdjjconccneaiaaGreat
open Go.RowKit Go.Conc

/-- the search in memory, and what it reads -/
structure FC (g : Gr.Gm) (n : Nat) (no : Option Addr) (L S C : Nat) (Bs : List Nat) (vs : List Value) (st : Fi.St) (w w' : World) : Prop where
  below : Below w.heap.size w w'
  lt : w.heap.size ≤ C ∧ ∀ b ∈ Bs, w.heap.size ≤ b
  nul : ∃ M, BoolsAt M w' no (Nl.of g) ∧ ∀ b ∈ Bs, M ≤ b
  lef : LAt w.heap.size L vs (Fi.lefts g.rules (Nl.of g) n) w'
  at' : GAt S C g.terms.length (n * g.terms.length) Bs st w'

theorem FS.core {g : Gr.Gm} {n : Nat} {no : Option Addr} {L S C : Nat} {Bs : List Nat} {vs : List Value} {st : Fi.St} {w W w' : World} (h : FS g n no L S C Bs vs st W w') (hW : Below w.heap.size w W) : FC g n no L S C Bs vs st w w' :=
  ⟨hW.trans (h.below.mono hW.size), ⟨Nat.le_trans hW.size h.lt.1, fun b hb => Nat.le_trans hW.size (h.lt.2 b hb)⟩, h.nul, h.lef.from hW.size, h.at'⟩
theorem FC.later {g : Gr.Gm} {n : Nat} {no : Option Addr} {L S C : Nat} {Bs : List Nat} {vs : List Value} {st : Fi.St} {w W W' : World} (h : FC g n no L S C Bs vs st w W) (hb : Below W.heap.size W W') : FC g n no L S C Bs vs st w W' := by
  obtain ⟨M, h1, h2⟩ := h.nul
  exact ⟨h.below.trans (hb.mono h.below.size), h.lt, ⟨M, BoolsAt.keep h1 hb.size fun k o y _ hc => hb.block k (World.block_lt_of_cell? _ _ hc), h2⟩, h.lef.later hb, h.at'.later hb⟩
theorem FC.step {g : Gr.Gm} {n : Nat} {no : Option Addr} {L S C : Nat} {Bs : List Nat} {vs : List Value} {st st' : Fi.St} {w W W' : World} (h : FC g n no L S C Bs vs st w W) (hb : ButL (C :: Bs) W W') (hg : GAt S C g.terms.length (n * g.terms.length) Bs st' W') : FC g n no L S C Bs vs st' w W' := by
  obtain ⟨M, h1, h2⟩ := h.nul
  obtain ⟨s, r, hch⟩ := h.at'.ch
  refine ⟨h.below.trans (hb.below (fun k hk => ?_) h.below.size), h.lt, ⟨M, BoolsAt.keep h1 hb.size fun k o y hk hc => hb.block k (World.block_lt_of_cell? _ _ hc) fun e => ?_, h2⟩, h.lef.butL hb fun q hq cs fr e => ?_, hg⟩
  · rcases List.mem_cons.1 hk with hk | hk
    · rw [hk]; exact h.lt.1
    · exact h.lt.2 k hk
  · rcases List.mem_cons.1 e with e | e
    · rw [e] at hc; exact cell_chan hch hc
    · have := h2 k e; omega
  · rcases List.mem_cons.1 hq with hq | hq
    · rw [hq] at e
      rcases e with e | e <;> rw [hch] at e <;> cases e
    · obtain ⟨i, hi, rfl⟩ := List.getElem_of_mem hq
      have hr := h.at'.rs.row i hi
      rcases e with e | e <;> rw [hr] at e
      · exact absurd (Obj.cells.inj (Option.some.inj e)).2.1 (by decide)
      · exact absurd (Obj.cells.inj (Option.some.inj e)).2.1 (by decide)
/-- a block of another kind is none of the search's -/
theorem FC.not {g : Gr.Gm} {n : Nat} {no : Option Addr} {L S C : Nat} {Bs : List Nat} {vs : List Value} {st : Fi.St} {w W : World} (h : FC g n no L S C Bs vs st w W) {X : Nat} {cs : Array Value} {t : TypeId} {fr : Nat × Nat} (hX : W.heap[X]? = some (.cells cs t fr)) (ht : t ≠ 4) : X ∉ C :: Bs := by
  intro q
  rcases List.mem_cons.1 q with q | q
  · obtain ⟨s, r, hch⟩ := h.at'.ch
    rw [← q, hX] at hch; cases hch
  · obtain ⟨i, hi, e⟩ := List.getElem_of_mem q
    have hr := h.at'.rs.row i hi
    rw [e, hX] at hr
    exact ht (Obj.cells.inj (Option.some.inj hr)).2.1

/-- amid the search -/
structure SInv8 (g : Gr.Gm) (n : Nat) (no : Option Addr) (nnc L S C X : Nat) (Bs : List Nat) (vs : List Value) (st : Fi.St) (w W : World) : Prop where
  core : FC g n no L S C Bs vs st w W
  own : Fi.Own g.terms.length st.ss
  sb : W.heap[X]? = some (.cells (fCells no nnc L S C n) 57 (0, 0))
  rb : W.heap[w.heap.size + 1]? = some (.cells #[.slice none 0 0, .slice none 0 0, .slice none 0 0, .chan none] 57 (0, 0))

/-- a settled search -/
structure FE (g : Gr.Gm) (n : Nat) (no : Option Addr) (S : Nat) (Bs : List Nat) (w w' : World) : Prop where
  below : Below w.heap.size w w'
  nul : BoolsAt w'.heap.size w' no (Nl.of g)
  rs : RowsAt S g.terms.length Bs (Fi.rows g.rules (Nl.of g) g.terms.length n) w'

set_option maxRecDepth 100000 in
set_option maxHeartbeats 3200000 in
theorem settled_any (g : Gr.Gm) (A : GA) (n : Nat) (w : World) (hn : g.terms.length + g.names.length = n) (hg : Gr.good g = true) (hm : ∀ x ∈ g.rules, x.2.length ≤ maxLen) (h : GmAt w.heap.size w g A) :
    Calls Tryz.prog 24 #[.agg (gmCells g A)] w fun e w' => ∃ no nnc L S C, e = .returned (.agg (fCells no nnc L S C n)) ∧ ∃ Bs, Hid (FE g n no S Bs w w') := by
  obtain ⟨ta, tc, na, nc, ra, rac⟩ := A
  have HG : Hid (GmAt w.heap.size w g ⟨ta, tc, na, nc, ra, rac⟩) := h
  have HF0 := Nl.fit_of hg
  rw [hn] at HF0
  have HF : Hid (Nl.Fit g.terms.length n g.rules) := HF0
  have HBG : Hid (∀ W : World, Below w.heap.size w W → Calls Tryz.prog 50 #[.agg (gmCells g ⟨ta, tc, na, nc, ra, rac⟩)] W fun e w' => ∃ no nnc L S C, e = .returned (.agg (fCells no nnc L S C n)) ∧ ∃ Bs vs st, Hid (FS g n no L S C Bs vs st W w')) := fun W hW => fbegun_any g _ n W hn hg hm (HG.out.next hW)
  have hB : Hid (Below w.heap.size w ((w.alloc (Obj.cells #[.slice ta g.terms.length tc, .slice na g.names.length nc, .slice ra g.rules.length rac] 25)).alloc (Obj.cells #[.slice none 0 0, .slice none 0 0, .slice none 0 0, .chan none] 57))) := ((Below.refl _ w).alloc (Nat.le_refl _) _).alloc (by simp) _
  have b1 : Hid (((w.alloc (Obj.cells #[.slice ta g.terms.length tc, .slice na g.names.length nc, .slice ra g.rules.length rac] 25)).alloc (Obj.cells #[.slice none 0 0, .slice none 0 0, .slice none 0 0, .chan none] 57)).heap[w.heap.size + 1]? = some (.cells #[.slice none 0 0, .slice none 0 0, .slice none 0 0, .chan none] 57 (0, 0))) := by
    show _ = _
    have := heap_alloc_new (w.alloc (Obj.cells #[.slice ta g.terms.length tc, .slice na g.names.length nc, .slice ra g.rules.length rac] 25)) (Obj.cells #[.slice none 0 0, .slice none 0 0, .slice none 0 0, .chan none] 57)
    simpa using this
  clear h hm HF0
  simp only [gmCells] at HBG ⊢
  go_enter Tryz.func24, Tryz.ntmps24
  go_wp2_with (go_at_call 50; fail)
  generalize ((w.alloc (Obj.cells #[.slice ta g.terms.length tc, .slice na g.names.length nc, .slice ra g.rules.length rac] 25)).alloc (Obj.cells #[.slice none 0 0, .slice none 0 0, .slice none 0 0, .chan none] 57)) = W at *
  refine Calls.mono (HBG.out _ hB.out) ?_
  rintro e w2 ⟨no, nnc, L, S, C, rfl, Bs, vs, st, hFS⟩
  have hC0 : Hid _ := hFS.out.core hB.out
  have hI0 : Hid _ := hFS.out.inv
  have hO0 : Hid _ := hFS.out.own
  have hz := hB.out.size
  have rb2 : Hid (w2.heap[w.heap.size + 1]? = some (.cells #[.slice none 0 0, .slice none 0 0, .slice none 0 0, .chan none] 57 (0, 0))) := (hFS.out.below.block _ (Array.getElem?_eq_some_iff.1 b1.out).1).trans b1.out
  have HI : Hid (SInv8 g n no nnc L S C w2.heap.size Bs vs st w (w2.alloc (Obj.cells #[.slice no n nnc, .slice (some ⟨L, 0, none⟩) n n, .slice (some ⟨S, 0, none⟩) n n, .chan (some C)] 57))) :=
    ⟨hC0.out.later ((Below.refl _ w2).alloc (Nat.le_refl _) _), hO0.out, heap_alloc_new w2 _, (Below.heap_alloc _ _ _ (Array.getElem?_eq_some_iff.1 rb2.out).1).trans rb2.out⟩
  clear hFS hC0 hO0 rb2 b1 HBG hz
  simp only [fCells]
  go_upto_region 2 with fail
  generalize (w2.alloc (Obj.cells #[.slice no n nnc, .slice (some ⟨L, 0, none⟩) n n, .slice (some ⟨S, 0, none⟩) n n, .chan (some C)] 57)) = W3 at *
  generalize w2.heap.size = X at *
  go_loopw [4] (fun _ wr => ∃ (st : Fi.St), Hid (SInv8 g n no nnc L S C X Bs vs st w wr) ∧ Hid (Fi.Inv g.terms.length n g.rules (Nl.of g) (fun _ _ _ => False) st)) (fun _ wr => Fi.left g.terms.length n (gstOf S C wr))
  case atStart => exact ⟨st, HI, hI0⟩
  case round =>
    obtain ⟨st', hA, hJ⟩ := hrel
    clear HI hI0
    have hsb := hA.out.sb
    simp only [fCells] at hsb
    obtain ⟨⟨c0, c1, c2, c3⟩, _⟩ := cells_four_z hsb
    have hbl := (Array.getElem?_eq_some_iff.1 hsb).1
    clear hsb
    obtain ⟨sn, rn, hch⟩ := hA.out.core.at'.ch
    have HCH : Hid _ := hch
    clear hch
    obtain ⟨ss, q⟩ := st'
    cases q with
    | nil =>
      go_upto_region 3 with fail
      refine wp_region_head ?_
      refine inReg_default (c := C) (cap := n * g.terms.length) (s := sn) (r := rn) (z := .agg #[.int .i64 0, .int .i64 0]) (tm := false) rfl rfl (by simp [go_sem, execOp, rcase, Act.eval]) HCH.out ?_
      refine inReg_list ?_
      have hd : ss = Fi.rows g.rules (Nl.of g) g.terms.length n := hJ.out.done hA.out.own
      have hR := hA.out.core.at'.rs
      simp only at hR
      rw [hd] at hR
      obtain ⟨M, hN, hM⟩ := hA.out.core.nul
      have hFE : Hid (∀ W6 : World, ButL [w.heap.size + 1] wr W6 → FE g n no S Bs w W6) := fun W6 hW => by
        have hnr := hA.out.core.not hA.out.rb (by decide)
        have hrl := (Array.getElem?_eq_some_iff.1 hA.out.rb).1
        refine ⟨hA.out.core.below.trans (hW.below (fun q hq => by rw [List.mem_singleton] at hq; omega) hA.out.core.below.size), BoolsAt.size (BoolsAt.keep hN hW.size fun k o y _ hc => hW.block k (World.block_lt_of_cell? _ _ hc) fun e => ?_), hR.butL hW ?_ fun b hb e => ?_⟩
        · rw [List.mem_singleton] at e
          rw [e] at hc
          have := cell_in hA.out.rb hc
          simp at this
        · intro e
          rw [List.mem_singleton] at e
          have h1 := hR.sb
          rw [e, hA.out.rb] at h1
          exact absurd (Obj.cells.inj (Option.some.inj h1)).2.1 (by decide)
        · rw [List.mem_singleton] at e
          rw [e] at hb
          exact hnr (List.mem_cons_of_mem _ hb)
      obtain ⟨⟨d0, d1, d2, d3⟩, z0, z1, z2, z3⟩ := cells_four_z hA.out.rb
      have hbl2 := (Array.getElem?_eq_some_iff.1 hA.out.rb).1
      have HB6 : Hid (ButL [w.heap.size + 1] wr ((((wr.setCell ⟨w.heap.size + 1, 0, none⟩ (.slice no n nnc)).setCell ⟨w.heap.size + 1, 1, none⟩ (.slice (some ⟨L, 0, none⟩) n n)).setCell ⟨w.heap.size + 1, 2, none⟩ (.slice (some ⟨S, 0, none⟩) n n)).setCell ⟨w.heap.size + 1, 3, none⟩ (.chan (some C)))) :=
        ((((ButL.refl _ wr).setCell (List.mem_cons_self ..) _ _).setCell (List.mem_cons_self ..) _ _).setCell (List.mem_cons_self ..) _ _).setCell (List.mem_cons_self ..) _ _
      have k5 := gset4 (x := .slice no n nnc) (y := .slice (some ⟨L, 0, none⟩) n n) (z := .slice (some ⟨S, 0, none⟩) n n) (u := .chan (some C)) hA.out.rb
      clear hA hJ HCH hR hN hM hd
      go_wp2_with fail
      generalize ((((wr.setCell ⟨w.heap.size + 1, 0, none⟩ (.slice no n nnc)).setCell ⟨w.heap.size + 1, 1, none⟩ (.slice (some ⟨L, 0, none⟩) n n)).setCell ⟨w.heap.size + 1, 2, none⟩ (.slice (some ⟨S, 0, none⟩) n n)).setCell ⟨w.heap.size + 1, 3, none⟩ (.chan (some C))) = W6 at *
      obtain ⟨⟨e0, e1, e2, e3⟩, _⟩ := cells_four_z k5
      refine bodyPost_ret (v := .agg (fCells no nnc L S C n)) (by simp [results, Tryz.results24, go_sem, fCells, e0, e1, e2, e3]) rfl ⟨no, nnc, L, S, C, rfl, Bs, hFE.out _ HB6.out⟩
    | cons p q =>
      obtain ⟨a, t⟩ := p
      go_upto_region 3 with fail
      refine wp_region_head ?_
      refine inReg_taken (c := C) (cap := n * g.terms.length) (buf := (((a, t) :: q).map gainV).toArray) (s := sn) (r := rn) (z := .agg #[.int .i64 0, .int .i64 0]) (closed := false) (tm := false) rfl rfl (by simp [go_sem, execOp, rcase, Act.eval]) HCH.out (by simp) ?_
      refine inReg_list ?_
      have hnX := hA.out.core.not hA.out.sb (by decide)
      have hnR := hA.out.core.not hA.out.rb (by decide)
      have S4 : Hid _ := hA.out.core.at'.take sn (rn + 1)
      have hb4 : Hid (ButL (C :: Bs) wr (wr.setChan C (n * g.terms.length) ((((a, t) :: q).map gainV).toArray.extract 1 (((a, t) :: q).map gainV).toArray.size) false sn (rn + 1) false)) := (ButL.refl _ wr).setChan (List.mem_cons_self ..) _ _ _ _ _ _
      have hx0 : (((a, t) :: q).map gainV).toArray.getD 0 undef = .agg #[.int .i64 a, .int .i64 t] := by simp [gainV]
      rw [hx0]
      generalize (wr.setChan C (n * g.terms.length) ((((a, t) :: q).map gainV).toArray.extract 1 (((a, t) :: q).map gainV).toArray.size) false sn (rn + 1) false) = W4 at *
      obtain ⟨hi4, hlt4, hal, hls⟩ := hJ.out.take HF.out
      have e1 := hA.out.core.at'.read
      have C4 : Hid _ := hA.out.core.step hb4.out S4.out
      have sb4 : Hid (W4.heap[X]? = some (.cells (fCells no nnc L S C n) 57 (0, 0))) := (hb4.out.block _ hbl hnX).trans hA.out.sb
      have rb4 : Hid _ := (hb4.out.block _ (Array.getElem?_eq_some_iff.1 hA.out.rb).1 hnR).trans hA.out.rb
      have O4 : Hid (Fi.Own g.terms.length ss) := hA.out.own
      obtain ⟨MO, hMO⟩ : ∃ MO, Fi.left g.terms.length n (gstOf S C wr) = MO := ⟨_, rfl⟩
      have HM0 : Hid (Fi.left g.terms.length n (⟨ss, q⟩ : Fi.St) < MO) := by
        show _ < _
        rw [← hMO, e1]; exact hlt4
      have HMO : Hid (Fi.left g.terms.length n (gstOf S C wr) = MO) := hMO
      clear hMO
      obtain ⟨k, rfl⟩ : ∃ k : Nat, a = k := ⟨a.toNat, by omega⟩
      have hkn : k < n := by omega
      have hvl : vs.length = n := by rw [hA.out.core.lef.len, Fi.lefts_len HF.out]
      have hkv : k < vs.length := by omega
      simp only [Int.toNat_natCast] at hi4 hls
      obtain ⟨lo, lc, hvk, _⟩ := OwnInts.read (C4.out.lef.own k hkv)
      have VK : Hid (vs[k] = .slice lo ((Fi.lefts g.rules (Nl.of g) n).getD k []).length lc) := hvk
      have cL : W4.cell? ⟨L, k, none⟩ = some (.slice lo ((Fi.lefts g.rules (Nl.of g) n).getD k []).length lc) := by rw [← hvk]; exact (C4.out.lef.cell k hkv).1
      have hLl := (Array.getElem?_eq_some_iff.1 C4.out.lef.lb).1
      have HLS : Hid (∀ l ∈ (Fi.lefts g.rules (Nl.of g) n).getD k [], (0 ≤ l ∧ l < n) ∧ Fi.Beg g.rules (Nl.of g) g.terms.length l t) := hls
      have HI4 : Hid _ := hi4
      have ht4 : 0 ≤ t ∧ t < g.terms.length := (hJ.out.shape.lt (hJ.out.q ((k : Int), t) (List.mem_cons_self ..))).2
      have hbn : Hid (Below W4.heap.size W4 (W4.alloc (Obj.cells #[.int .i64 (k : Int), .int .i64 t] 75))) := (Below.refl _ W4).alloc (Nat.le_refl _) _
      have P5 : Hid (SInv8 g n no nnc L S C X Bs vs ⟨ss, q⟩ w (W4.alloc (Obj.cells #[.int .i64 (k : Int), .int .i64 t] 75))) :=
        ⟨C4.out.later hbn.out, O4.out, (hbn.out.block _ (Array.getElem?_eq_some_iff.1 sb4.out).1).trans sb4.out, (hbn.out.block _ (Array.getElem?_eq_some_iff.1 rb4.out).1).trans rb4.out⟩
      have kn : Hid ((W4.alloc (Obj.cells #[.int .i64 (k : Int), .int .i64 t] 75)).heap[W4.heap.size]? = some (.cells #[.int .i64 (k : Int), .int .i64 t] 75 (0, 0))) := heap_alloc_new W4 _
      have hsb4 := sb4.out
      simp only [fCells] at hsb4
      clear c0 c1 c2 c3
      obtain ⟨⟨c0, c1, c2, c3⟩, _⟩ := cells_four_z hsb4
      have hbl4 := (Array.getElem?_eq_some_iff.1 hsb4).1
      clear hi4 hls hlt4 hA hJ HCH S4 hb4 hx0 e1 C4 O4 hvk hsb4 rb4 hnX hnR hbl
      have hki : (k : Int) < (n : Int) := by omega
      obtain ⟨ls, hlse⟩ : ∃ ls, (Fi.lefts g.rules (Nl.of g) n).getD k [] = ls := ⟨_, rfl⟩
      rw [hlse] at HLS HI4 VK cL
      have LSE : Hid ((Fi.lefts g.rules (Nl.of g) n).getD k [] = ls) := hlse
      have hls8 : ls.length ≤ 480 := by
        obtain ⟨hsz, h8⟩ := Nl.sizes_of hg
        have h1 := Fi.fold_small (nl := Nl.of g) k (rs := g.rules) (ls := List.replicate n []) h8
        have h2 : ((List.replicate n ([] : List Int)).getD k []).length = 0 := by
          rw [List.getD_eq_getElem?_getD, List.getElem?_replicate]; split <;> rfl
        rw [← hlse]
        unfold Fi.lefts
        omega
      clear hlse
      go_wp2_with fail
      generalize (W4.alloc (Obj.cells #[.int .i64 (k : Int), .int .i64 t] 75)) = W5 at *
      generalize W4.heap.size = G at *
      go_loopw [23] (fun i wr => ∃ (m : Nat) (st : Fi.St), m ≤ ls.length ∧ i = .int .i64 m ∧ Hid (SInv8 g n no nnc L S C X Bs vs st w wr) ∧ Hid (wr.heap[G]? = some (.cells #[.int .i64 (k : Int), .int .i64 t] 75 (0, 0))) ∧ Hid (Fi.Inv g.terms.length n g.rules (Nl.of g) (fun _ u l => u = t ∧ l ∈ ls.drop m) st) ∧ Hid (Fi.left g.terms.length n st ≤ Fi.left g.terms.length n ⟨ss, q⟩)) (fun i _ => ls.length - (intOf i).toNat)
      case atStart => exact ⟨0, _, Nat.zero_le _, rfl, P5, kn, HI4, Nat.le_refl _⟩
      case round =>
        obtain ⟨m, st, hm, rfl, hA, hG, hJ, hL⟩ := hrel
        clear P5 kn HI4 c0 c1 c2 c3 cL sb4
        by_cases hml : m < ls.length
        · have how := hA.out.core.lef.own k hkv
          rw [LSE.out] at how
          obtain ⟨lo2, lc2, e2, rd, _⟩ := OwnInts.read how
          clear how
          rw [VK.out] at e2
          obtain ⟨rfl, rfl⟩ : lo = lo2 ∧ lc = lc2 := by
            simp only [Value.slice.injEq] at e2
            exact ⟨e2.1, e2.2.2⟩
          obtain ⟨lb, lof, rfl, _, _, l0⟩ := IntsAt.get rd m hml
          obtain ⟨⟨y0, y1⟩, hbg⟩ := HLS.out _ (List.getElem_mem hml)
          have J2 : Hid _ := hJ.out.again hml y0 y1 hbg
          obtain ⟨_, L2, _, M2, hrm⟩ := hJ.out.grow y0 y1 hbg
          have hnX := hA.out.core.not hA.out.sb (by decide)
          have hnR := hA.out.core.not hA.out.rb (by decide)
          have hnG := hA.out.core.not hG.out (by decide)
          have HX : Hid (X ∉ C :: Bs ∧ w.heap.size + 1 ∉ C :: Bs ∧ G ∉ C :: Bs) := ⟨hnX, hnR, hnG⟩
          have HGR : Hid _ := grow_any st n g.terms.length S C (n * g.terms.length) L nnc no Bs ls[m] t wr hA.out.core.at' hJ.out.shape.len ⟨y0, y1⟩ ht4 hrm
          have O2 : Hid (Fi.Own g.terms.length (Fi.grow st ls[m] t).ss) := fun u h0 h1 => M2 _ _ (hA.out.own u h0 h1)
          have HL2 : Hid _ := Nat.le_trans L2 hL.out
          have MM : Hid (∀ u v, Fi.has st.ss u v = true → Fi.has (Fi.grow st ls[m] t).ss u v = true) := M2
          have hsb6 := hA.out.sb
          simp only [fCells] at hsb6 HGR
          obtain ⟨⟨c0, c1, c2, c3⟩, _⟩ := cells_four_z hsb6
          obtain ⟨g0, g1, _⟩ := cells_two_z hG.out
          have hb6l := (Array.getElem?_eq_some_iff.1 hsb6).1
          have hg6l := (Array.getElem?_eq_some_iff.1 hG.out).1
          clear rd e2 hJ hbg L2 M2 hrm hsb6 hnX hnR hnG MM
          generalize ls[m] = y at *
          go_wp2_with (go_at_call 51; refine Calls.mono HGR.out ?_; rintro e w5 ⟨rfl, hb5, hs5⟩)
          have N1 : Hid (SInv8 g n no nnc L S C X Bs vs (Fi.grow st y t) w w5) :=
            ⟨hA.out.core.step hb5.out hs5.out, O2.out, (hb5.out.block _ hb6l HX.out.1).trans hA.out.sb, (hb5.out.block _ (Array.getElem?_eq_some_iff.1 hA.out.rb).1 HX.out.2.1).trans hA.out.rb⟩
          have N2 : Hid _ := (hb5.out.block _ hg6l HX.out.2.2).trans hG.out
          clear c0 c1 c2 c3 g0 g1 l0 HGR hb5 hs5 hA hG O2 hL
          go_roundw
          case rel => exact ⟨m + 1, _, by omega, by go_num, N1, N2, J2, HL2⟩
          case measure => simp [intOf]; omega
        · obtain rfl : m = ls.length := by omega
          have J2 : Hid _ := hJ.out.rest
          have e2 := hA.out.core.at'.read
          have HM : Hid (Fi.left g.terms.length n (gstOf S C wr) < MO) := by
            show _ < _
            rw [e2]
            exact Nat.lt_of_le_of_lt hL.out HM0.out
          clear hJ hG hL e2
          go_wp2_with fail
          go_roundw
          case rel => exact ⟨st, hA, J2⟩
          case measure => exact Nat.lt_of_lt_of_eq HM.out HMO.out.symm
end Go.Proofs.YtdjjconccneaiaaGreat
