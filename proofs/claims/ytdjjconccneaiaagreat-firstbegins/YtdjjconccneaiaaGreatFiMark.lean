/-
  The laws of layer 8: their own marking and comparing (mark, same).
-/
import Derived.Test.YtdjjconccneaiaaGreatFiLaw
import Derived.Test.YtdjjconccneaiaaGreatSchRef
namespace Go.Proofs.YtdjjconccneaiaaGreat.Fi
open Go.Proofs.YtdjjconccneaiaaGreat.Gr Go.Proofs.YtdjjconccneaiaaGreat.Nl

theorem riseTo_pre (b : List Bool) (k : Nat) : ∀ d, ∃ r, riseTo b (k + d) = riseTo b k ++ r
  | 0 => ⟨[], by simp⟩
  | d + 1 => by
    obtain ⟨r, e⟩ := riseTo_pre b k d
    refine ⟨r ++ (if b.getD (k + d) false = true then [((k + d : Nat) : Int)] else []), ?_⟩
    rw [show k + (d + 1) = (k + d) + 1 from rfl, riseTo_succ, e, List.append_assoc]
/-- the next that is told -/
theorem rise_at {b : List Bool} {k : Nat} (hk : k < b.length) (h : b.getD k false = true) : ∃ hl : (riseTo b k).length < (rise b).length, (rise b)[(riseTo b k).length] = (k : Int) := by
  obtain ⟨r, e⟩ := riseTo_pre b (k + 1) (b.length - (k + 1))
  rw [show k + 1 + (b.length - (k + 1)) = b.length from by omega] at e
  have e2 : rise b = riseTo b k ++ ((k : Int) :: r) := by
    unfold rise
    rw [e, riseTo_succ, if_pos h, List.append_assoc]; rfl
  have hl : (riseTo b k).length < (rise b).length := by rw [e2, List.length_append, List.length_cons]; omega
  refine ⟨hl, ?_⟩
  simp only [e2]
  rw [List.getElem_append_right (Nat.le_refl _)]
  simp
theorem foldTell_len : ∀ (xs : List Int) (b : List Bool), (xs.foldl tell b).length = b.length
  | [], _ => rfl
  | x :: xs, b => by rw [List.foldl_cons, foldTell_len xs, tell_len]
theorem foldTell_step (b : List Bool) (xs : List Int) (k : Nat) (h : k < xs.length) : (xs.take (k + 1)).foldl tell b = tell ((xs.take k).foldl tell b) xs[k] := by
  rw [List.take_add_one, List.getElem?_eq_getElem h, List.foldl_append]; rfl
theorem foldTell_at {n : Nat} : ∀ {xs : List Int} {b : List Bool}, b.length = n → (∀ x ∈ xs, 0 ≤ x ∧ x < n) → ∀ {s : Int}, isAt (xs.foldl tell b) s = true ↔ (isAt b s = true ∨ s ∈ xs)
  | [], _, _, _, s => by simp
  | x :: xs, b, hb, hx, s => by
    have h0 := hx x (List.mem_cons_self ..)
    rw [List.foldl_cons, foldTell_at (b := tell b x) (by rw [tell_len, hb]) fun y hy => hx y (List.mem_cons_of_mem _ hy)]
    constructor
    · rintro (h | h)
      · rcases tell_back h0.1 h with rfl | h
        · exact .inr (List.mem_cons_self ..)
        · exact .inl h
      · exact .inr (List.mem_cons_of_mem _ h)
    · rintro (h | h)
      · exact .inl ((tell_le _ _).isAt h)
      · rcases List.mem_cons.1 h with rfl | h
        · exact .inl (tell_at h0.1 (by rw [hb]; exact h0.2))
        · exact .inr h
end Go.Proofs.YtdjjconccneaiaaGreat.Fi

namespace Go.Proofs.YtdjjconccneaiaaGreat
open Go.RowKit Go.Conc

/-- numbers stand where their block does -/
theorem IntsAt.keep {N : Nat} {w w' : World} {ao : Option Addr} {xs : List Int} (h : IntsAt N w ao xs) (hs : w.heap.size ≤ w'.heap.size) (hk : ∀ k o y, k < N → w.cell? ⟨k, o, none⟩ = some (.int .i64 y) → w'.heap[k]? = w.heap[k]?) : IntsAt N w' ao xs := by
  intro i hi
  have hi' : i < xs.length := by simpa using hi
  obtain ⟨b, o, e, h1, h2, c⟩ := IntsAt.get h i hi'
  refine ⟨b, o, e, h1, Nat.lt_of_lt_of_le h2 hs, ?_⟩
  rw [List.getElem_map, ← c]
  exact World.cell?_of_block (hk b (o + i) _ h1 c)

set_option maxHeartbeats 1600000 in
theorem mark_any (bs : List Bool) (n H : Nat) (xs : List Int) (ao : Option Addr) (c : Nat) (w : World) (hn : bs.length = n) (hb : w.heap[H]? = some (.cells (bs.map Value.bool).toArray 4 (0, 0))) (hx : IntsAt w.heap.size w ao xs) (hin : ∀ x ∈ xs, 0 ≤ x ∧ x < n) (h4 : xs.length ≤ 4000) :
    Calls Tryz.prog 18 #[.slice (some ⟨H, 0, none⟩) n n, .slice ao xs.length c] w fun e w' => e = .returned (.bool true) ∧ Hid (w'.heap[H]? = some (.cells ((xs.foldl Nl.tell bs).map Value.bool).toArray 4 (0, 0))) ∧ Hid (ButL [H] w w') := by
  have HIN : Hid _ := hin
  have KX : Hid (∀ W : World, ButL [H] w W → IntsAt w.heap.size W ao xs) := fun W hW => IntsAt.keep hx hW.size fun k o y hk hc => hW.block k hk fun e => by
    rw [List.mem_singleton] at e
    rw [e] at hc
    have := cell_in hb hc
    simp at this
  have P0 : Hid (w.heap[H]? = some (.cells (((xs.take 0).foldl Nl.tell bs).map Value.bool).toArray 4 (0, 0))) := hb
  clear hin hb hx
  go_enter Tryz.func18, Tryz.ntmps18
  go_wp2_with fail
  go_loopw [5] (fun i wr => ∃ k : Nat, k ≤ xs.length ∧ i = .int .i64 k ∧ Hid (wr.heap[H]? = some (.cells (((xs.take k).foldl Nl.tell bs).map Value.bool).toArray 4 (0, 0))) ∧ Hid (ButL [H] w wr)) (fun i _ => xs.length - (intOf i).toNat)
  case atStart => exact ⟨0, Nat.zero_le _, rfl, P0, ButL.refl _ _⟩
  case round =>
    obtain ⟨k, hk, rfl, hM, hbt⟩ := hrel
    clear P0
    by_cases hkl : k < xs.length
    · have hki : (k : Int) < (xs.length : Int) := by omega
      obtain ⟨xb, xo, rfl, _, _, x0⟩ := IntsAt.get (KX.out wr hbt.out) k hkl
      have hx := HIN.out _ (List.getElem_mem hkl)
      have ST : Hid _ := Fi.foldTell_step bs xs k hkl
      have hml : ((xs.take k).foldl Nl.tell bs).length = n := by rw [Fi.foldTell_len, hn]
      generalize xs[k] = x at *
      obtain ⟨m, rfl⟩ : ∃ m : Nat, x = m := ⟨x.toNat, by omega⟩
      have hmn : m < n := by omega
      have hmI : (m : Int) < (n : Int) := by omega
      have f0 : wr.frozen? ⟨H, m, none⟩ = false := by simp [World.frozen?, hM.out]
      have c0 : wr.cell? ⟨H, m, none⟩ = some (.bool (((xs.take k).foldl Nl.tell bs)[m]'(by omega))) := by
        have := bools_cell hM.out m (by omega)
        exact this.1
      have hHl := (Array.getElem?_eq_some_iff.1 hM.out).1
      have N1 : Hid ((wr.setCell ⟨H, m, none⟩ (.bool true)).heap[H]? = some (.cells (((xs.take (k + 1)).foldl Nl.tell bs).map Value.bool).toArray 4 (0, 0))) := by
        show _ = _
        rw [ST.out]
        have := bools_set hM.out m true
        simpa [Nl.tell] using this
      have N2 : Hid (ButL [H] w (wr.setCell ⟨H, m, none⟩ (.bool true))) := hbt.out.setCell (List.mem_cons_self ..) _ _
      clear hM hbt ST
      go_wp2_with fail
      go_roundw
      case rel => exact ⟨k + 1, by omega, by go_num, N1, N2⟩
      case measure => simp [intOf]; omega
    · obtain rfl : k = xs.length := by omega
      have hki : ¬ (xs.length : Int) < (xs.length : Int) := by omega
      rw [List.take_length] at hM
      go_wp2_with fail
      go_ret
      exact ⟨rfl, hM, hbt⟩

set_option maxHeartbeats 1600000 in
theorem same_any (bs : List Bool) (xs : List Int) (bo ao : Option Addr) (bc c : Nat) (w : World) (hb : BoolsAt w.heap.size w bo bs) (hx : IntsAt w.heap.size w ao xs) (he : Fi.rise bs = xs) (h4 : bs.length ≤ 4000) :
    Calls Tryz.prog 19 #[.slice bo bs.length bc, .slice ao xs.length c] w fun e w' => e = .returned (.bool true) ∧ w' = w := by
  subst he
  have HB : Hid _ := hb.get
  have HX : Hid _ := hx.get
  have hxl : (Fi.rise bs).length ≤ 4000 := Nat.le_trans (Fi.riseTo_len _ _) h4
  clear hb hx
  go_enter Tryz.func19, Tryz.ntmps19
  go_wp2_with fail
  go_loopw [5, 6] (fun a i wr => ∃ k : Nat, k ≤ bs.length ∧ a = .int .i64 ((Fi.riseTo bs k).length : Nat) ∧ i = .int .i64 k ∧ wr = w) (fun _ i _ => bs.length - (intOf i).toNat)
  case atStart => exact ⟨0, Nat.zero_le _, rfl, rfl, rfl⟩
  case round =>
    obtain ⟨k, hk, rfl, rfl, rfl⟩ := hrel
    by_cases hkl : k < bs.length
    · have hki : (k : Int) < (bs.length : Int) := by omega
      obtain ⟨b, o, rfl, _, _, c0⟩ := HB.out k hkl
      have ST := Fi.riseTo_succ bs k
      have hat : bs.getD k false = bs[k] := by simp [List.getD_eq_getElem?_getD, hkl]
      have hle := Fi.riseTo_len bs k
      have HAT : Hid (bs.getD k false = true → ∃ hl : (Fi.riseTo bs k).length < (Fi.rise bs).length, (Fi.rise bs)[(Fi.riseTo bs k).length] = (k : Int)) := fun h => Fi.rise_at hkl h
      rw [hat] at ST HAT
      clear hat
      generalize bs[k] = y at *
      cases y
      · have R : Hid ((Fi.riseTo bs (k + 1)).length = (Fi.riseTo bs k).length) := by show _ = _; rw [ST]; simp
        clear ST HAT
        go_wp2_with fail
        go_roundw
        case rel => exact ⟨k + 1, by omega, by rw [R.out], by go_num, trivial⟩
        case measure => simp [intOf]; omega
      · have R : Hid ((Fi.riseTo bs (k + 1)).length = (Fi.riseTo bs k).length + 1) := by show _ = _; rw [ST]; simp
        obtain ⟨hl, e⟩ := HAT.out rfl
        obtain ⟨xb, xo, rfl, _, _, x0⟩ := HX.out _ hl
        rw [e] at x0
        have hd : decide (((Fi.rise bs).length : Int) ≤ ((Fi.riseTo bs k).length : Int)) = false := decide_eq_false (by omega)
        have hne : ((k : Int) != (k : Int)) = false := by simp
        clear ST HAT e
        generalize (Fi.riseTo bs k).length = q at *
        generalize Fi.rise bs = rs at *
        go_wp2_with fail
        go_roundw
        case rel => exact ⟨k + 1, by omega, by rw [R.out]; go_num, by go_num, trivial⟩
        case measure => simp [intOf]; omega
    · obtain rfl : k = bs.length := by omega
      have hki : ¬ (bs.length : Int) < (bs.length : Int) := by omega
      have hle := Fi.riseTo_len bs bs.length
      have e : (Fi.riseTo bs bs.length).length = (Fi.rise bs).length := rfl
      rw [e]
      go_wp2_with fail
      go_ret
      exact ⟨ret_bool (by simp), rfl⟩

theorem Fi.setsG_len {g : Gr.Gm} (hg : Gr.good g = true) : (Fi.setsG g).length = g.terms.length + g.names.length := by
  unfold Fi.setsG; rw [if_pos hg, List.length_map, (Fi.tab_shape g).len]
theorem Fi.setsG_get {g : Gr.Gm} (hg : Gr.good g = true) (s : Nat) (hs : s < g.terms.length + g.names.length) : (Fi.setsG g).getD s [] = Fi.rise ((Fi.tab g).getD s []) := by
  have hl : s < (Fi.tab g).length := by rw [(Fi.tab_shape g).len]; exact hs
  unfold Fi.setsG
  rw [if_pos hg]
  simp [List.getD_eq_getElem?_getD, hl]
/-- what a symbol begins with, told -/
theorem Fi.setsG_mem {g : Gr.Gm} (hg : Gr.good g = true) (s : Nat) (hs : s < g.terms.length + g.names.length) (t : Int) : t ∈ (Fi.setsG g).getD s [] ↔ Fi.Beg g.rules (Nl.of g) g.terms.length (s : Int) t := by
  rw [Fi.setsG_get hg s hs, Fi.mem_rise, ← Fi.rows_has (n := g.terms.length + g.names.length) (show (0 : Int) ≤ (s : Int) by omega) (show (s : Int) < ((g.terms.length + g.names.length : Nat) : Int) by omega)]
  simp [Fi.has, Fi.row, Fi.tab]
theorem Fi.setsG_in {g : Gr.Gm} (hg : Gr.good g = true) (s : Nat) (hs : s < g.terms.length + g.names.length) : ∀ t ∈ (Fi.setsG g).getD s [], 0 ≤ t ∧ t < g.terms.length := fun t ht => ((Fi.setsG_mem hg s hs t).1 ht).term
theorem Fi.le_more {g h : Gr.Gm} (hg : Gr.good g = true) (hh : Gr.good h = true) (ht : h.terms.length = g.terms.length) (hn : h.names.length = g.names.length) (hr : ∀ r ∈ g.rules, r ∈ h.rules) : Nl.Le (Nl.of g) (Nl.of h) := by
  refine ⟨by rw [Nl.of_len hg, Nl.of_len hh, ht, hn], fun i q => ?_⟩
  rw [← Nl.isAt_nat] at q ⊢
  have e1 : Nl.of g = Nl.nulls g.rules (g.terms.length + g.names.length) := by unfold Nl.of; rw [if_pos hg]
  have e2 : Nl.of h = Nl.nulls h.rules (h.terms.length + h.names.length) := by unfold Nl.of; rw [if_pos hh]
  rw [e1, Nl.nulls_at (Nl.fit_of hg)] at q
  rw [e2, Nl.nulls_at (Nl.fit_of hh)]
  exact q.more hr
theorem Fi.setsG_more {g h : Gr.Gm} (hg : Gr.good g = true) (hh : Gr.good h = true) (ht : h.terms.length = g.terms.length) (hn : h.names.length = g.names.length) (hr : ∀ r ∈ g.rules, r ∈ h.rules) (s : Nat) (hs : s < g.terms.length + g.names.length) : ∀ t ∈ (Fi.setsG g).getD s [], t ∈ (Fi.setsG h).getD s [] := fun t q => by
  rw [Fi.setsG_mem hg s hs] at q
  rw [Fi.setsG_mem hh s (by rw [ht, hn]; exact hs), ht]
  exact q.more hr (Fi.le_more hg hh ht hn hr)
theorem Fi.setsG_short (g : Gr.Gm) : ∀ x ∈ Fi.setsG g, x.length ≤ g.terms.length := by
  unfold Fi.setsG
  split
  · intro x hx
    obtain ⟨r, hr, rfl⟩ := List.mem_map.1 hx
    exact Nat.le_trans (Fi.riseTo_len _ _) (by rw [(Fi.tab_shape g).each r hr]; exact Nat.le_refl _)
  · intro x hx; simp at hx
end Go.Proofs.YtdjjconccneaiaaGreat
