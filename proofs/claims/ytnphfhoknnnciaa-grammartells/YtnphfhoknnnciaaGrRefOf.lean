/-
  The document's own Of of layer 3: the grammar of any text, or the fault: it comes to the same as the program's.
-/
import Derived.Test.YtnphfhoknnnciaaGrRefOfLib
import Derived.Test.YtnphfhoknnnciaaGrRefs
import Derived.Test.YtnphfhoknnnciaaLexRefIs
import Derived.Test.YtnphfhoknnnciaaReadRef1
import Derived.Deep.DeepCutAuto
namespace Go.Proofs.Ytnphfhoknnnciaa
open Go.RowKit

set_option maxRecDepth 100000 in
set_option maxHeartbeats 6400000 in
theorem refOf_any (s : ByteArray) (w : World) (hs : s.size ≤ maxLen) : Calls Try.prog 11 #[.string s] w (ROPost s.data.toList w) := by
  have hs' : s.size ≤ 9223372036854775807 := hs
  have HLn : Hid (s.data.toList.length = s.size) := by show _ = _; simp
  have GE : Hid (∀ n a : Int, ofS s.data.toList = (n, a, ⟨[], [], []⟩) → ∀ w', Below w.heap.size w w' → ROPost s.data.toList w (.returned (.agg #[.slice none 0 0, .slice none 0 0, .slice none 0 0, .int .i64 n, .int .i64 a])) w') := fun n a he w' hb => by
    refine ⟨hb, ⟨none, 0, none, 0, none, 0⟩, ?_, ?_⟩
    · rw [he]; rfl
    · rw [he]; exact GmOwn.none _ _
  rcases toksOf_cases s.data.toList with ⟨us, ht, hl, hE⟩ | ⟨n, a, hn, ha, hE, hG⟩
  · have HG : Hid (tokensG s.data.toList = (0, 0, us)) := by show _ = _; unfold tokensG; rw [if_neg (by omega), ht]
    have hlen : (us.map tkOf).length ≤ 2000 := by rw [List.length_map]; have := Lx.tokens_count ht; omega
    have HX2 : Hid (∀ t ∈ us.map tkOf, t.text.size ≤ maxLen) := fun t h => by have := tkOf_small ht t h; unfold maxLen; omega
    have hpos : ∀ (W : World), _ := fun W => refTokens_tks s 0 0 us (us.map tkOf) W hs HG rfl
    have HTK : Hid _ := hpos
    clear hpos
    rcases Rd.altsG_cases (us.map tkOf) s.size with ⟨xs, h1, h2, h3, h4⟩ | ⟨⟨en, ea⟩, h1, h2, h3⟩
    · have HE : Hid (ofS s.data.toList = outG (Gr.of xs)) := by
        show _ = _; unfold ofS Gr.ofG; rw [hE, HLn.out]; simp only [h2]; cases Gr.of xs <;> rfl
      have HA : Hid (Rd.altsG (us.map tkOf) s.size = (0, 0, xs)) := h2
      have hsm := Rd.altsG_small h2
      have H8 : Hid _ := hsm.2
      have HT : Hid (∀ x ∈ xs, x.1.text.size ≤ maxLen ∧ ∀ t ∈ x.2, t.text.size ≤ maxLen) := fun x hx => by
        have := Rd.alts_mem (fun t => t.text.size ≤ maxLen) h3 HX2.out x hx
        exact ⟨this.1.2, fun t ht => (this.2 t ht).2⟩
      have HKD : Hid (∀ x ∈ xs, x.1.kind = 1 ∧ ∀ t ∈ x.2, t.kind = 1 ∨ t.kind = 2) := fun x hx => by
        have := Rd.alts_mem (fun t => t.text.size ≤ maxLen) h3 HX2.out x hx
        exact ⟨this.1.1, fun t ht => (this.2 t ht).1⟩
      have hs6 := hsm.1
      clear hsm h1 h2 h3 h4 hE hl ht HX2
      generalize us.map tkOf = ts at *
      go_enter Try.func11, Try.ntmps11
      go_wp2_with fail
      refine (HTK.out _).mono ?_
      rintro e w1 ⟨ao, c, rfl, hb1, ht1, hc1⟩
      have hz1 : w.heap.size < w1.heap.size := by have := hb1.out.size; simp at this; omega
      have hr1 : w1.heap[w.heap.size]? = some (.cells #[.slice none 0 0, .slice none 0 0, .slice none 0 0, .int .i64 0, .int .i64 0] 34 (0, 0)) := by
        rw [hb1.out.block _ (by simp)]; exact heap_alloc_new w _
      have hbw1 : Hid (Below w.heap.size w w1) := ((Below.refl _ w).alloc (Nat.le_refl _) _).trans (hb1.out.mono (by simp))
      have hb11 : Hid (Below w1.heap.size w1 (w1.alloc (Obj.cells #[.slice ao ts.length c, .int .i64 0, .int .i64 0] 62))) := (Below.refl _ w1).alloc (Nat.le_refl _) _
      have hl1 : Hid ((w1.alloc (Obj.cells #[.slice ao ts.length c, .int .i64 0, .int .i64 0] 62)).heap.size = w1.heap.size + 1) := by show _ = _; simp
      clear hb1
      go_wp2_with fail
      refine (refAlts_any ao c ts s.size _ hlen (ht1.out.later hb11.out).size).mono ?_
      rintro e w3 ⟨hb3, v, rfl, hown⟩
      rw [HA.out] at hown ⊢
      obtain ⟨xo, xc, hv, _⟩ := hown.read
      subst hv
      have hb3' := hb11.out.trans (hb3.mono hb11.out.size)
      have hbw3 : Below w.heap.size w w3 := hbw1.out.trans (hb3'.mono hbw1.out.size)
      have hz3 : w1.heap.size < w3.heap.size := by have := hb3.size; rw [hl1.out] at this; omega
      have HBW : Hid (Below w.heap.size w (w3.alloc (Obj.cells #[.slice xo xs.length xc, .int .i64 0, .int .i64 0] 65))) := hbw3.alloc hbw3.size _
      have HWA : Hid ((w3.alloc (Obj.cells #[.slice xo xs.length xc, .int .i64 0, .int .i64 0] 65)).heap[w3.heap.size]? = some (.cells #[.slice xo xs.length xc, .int .i64 0, .int .i64 0] 65 (0, 0))) := heap_alloc_new _ _
      have HWN : Hid ((w3.alloc (Obj.cells #[.slice xo xs.length xc, .int .i64 0, .int .i64 0] 65)).heap[w.heap.size]? = some (.cells #[.slice none 0 0, .slice none 0 0, .slice none 0 0, .int .i64 0, .int .i64 0] 34 (0, 0))) := by
        show _ = _; rw [Below.heap_alloc _ _ _ (by omega), hb3'.block _ hz1]; exact hr1
      have HAW : Hid _ := (hown.below ((Below.refl _ w3).alloc (Nat.le_refl _) (Obj.cells #[.slice xo xs.length xc, .int .i64 0, .int .i64 0] 65))).right
      have HWS : Hid ((w3.alloc (Obj.cells #[.slice xo xs.length xc, .int .i64 0, .int .i64 0] 65)).heap.size = w3.heap.size + 1) := by show _ = _; simp
      have hNA : w.heap.size < w3.heap.size := by omega
      clear hb3' hbw3 hown hb3 hb11 hl1 hr1 hbw1 HA HTK HG ht1 hc1 hlen
      go_wp2_with fail
      generalize (w3.alloc (Obj.cells #[.slice xo xs.length xc, .int .i64 0, .int .i64 0] 65)) = W at *
      have hAW : w3.heap.size < W.heap.size := by rw [HWS.out]; omega
      rw [← HWS.out]
      clear HWS
      generalize w3.heap.size = AB at *
      have HRG : Hid (RG1 W (W.alloc (Obj.cells #[.slice none 0 0, .slice none 0 0, .slice none 0 0] 25)) (.slice none 0 0) []) :=
        ⟨(Below.refl _ W).alloc (Nat.le_refl _) _, by simp, heap_alloc_new W _, World.ownsRow_nil _ _ _ _⟩
      have GR : Hid (∀ g A w', Gr.of xs = .ok g → Below w.heap.size w w' → GmOwn w.heap.size w' g A → ROPost s.data.toList w (.returned (.agg #[.slice A.ta g.terms.length A.tc, .slice A.na g.names.length A.nc, .slice A.ra g.rules.length A.rc, .int .i64 0, .int .i64 0])) w') := fun g A w' he hb ho => by
        have e : ofS s.data.toList = (0, 0, g) := by rw [HE.out, he]; rfl
        exact ⟨hb, A, by rw [e], by rw [e]; exact ho⟩
      have GF : Hid (∀ (er : Rd.Er) w', Gr.of xs = .error er → Below w.heap.size w w' → ROPost s.data.toList w (.returned (.agg #[.slice none 0 0, .slice none 0 0, .slice none 0 0, .int .i64 er.1, .int .i64 er.2])) w') := fun er w' he hb => GE.out er.1 er.2 (by rw [HE.out, he]; rfl) w' hb
      have HAT : Hid (∀ (l : List ByteArray) (la : Option Addr) (lc : Nat) (x : ByteArray) (W' : World), l.length ≤ 4000 → StrsAt W'.heap.size W' la l → Calls Try.prog 31 #[.slice la l.length lc, .string x] W' fun e w' => e = .returned (.int .i64 (Gr.pos x l)) ∧ w' = W') := fun l la lc x W' hl h => refAt_any l hl la lc x W' h
      clear GE HE
      go_loopw [6] (fun i wr => ∃ (q : Nat) (no : Option Addr) (nc : Nat), q ≤ xs.length ∧ i = .int .i64 q ∧ Hid (RG1 W wr (.slice no (Gr.names (xs.take q)).length nc) (Gr.names (xs.take q)))) (fun i _ => xs.length - (intOf i).toNat)
      case atStart => exact ⟨0, none, 0, Nat.zero_le _, rfl, HRG⟩
      case round =>
        obtain ⟨q, no, nc, hq, rfl, hinv⟩ := hrel
        clear HRG
        obtain ⟨g0, g1, g2, gz0, gz1, gz2⟩ := cells_three_z hinv.out.gb
        obtain ⟨a0, a1, a2, _⟩ := cells_three_z ((hinv.out.below.block _ hAW).trans HWA.out)
        have hnl := Gr.names_len xs q
        have hlt0 := hinv.out.lt
        by_cases hlt : q < xs.length
        · have hqi : (q : Int) < (xs.length : Int) := by omega
          obtain ⟨gb, ro, rc, hxo, hgb, b0, b1, b2, b3, _⟩ := HAW.out q hlt
          subst hxo
          replace b1 := cell_later hinv.out.below b1
          have R : Hid _ := Gr.names_step xs q hlt
          generalize xs[q] = y at *
          obtain ⟨⟨yk, yx, yp⟩, yr⟩ := y
          simp only at b1 R
          generalize Gr.names (xs.take q) = ns at *
          have HSN : Hid (StrsAt wr.heap.size wr no ns) := by
            obtain ⟨_, _, hv, hr, _⟩ := OwnStrs.read hinv.out.on
            cases hv
            exact hr
          have hp := Gr.pos_has yx ns
          have HAQ : Hid (∀ k, Calls Try.prog 31 #[.slice no ns.length nc, .string yx] (wr.drewN k) fun e w' => e = .returned (.int .i64 (Gr.pos yx ns)) ∧ w' = wr.drewN k) := fun k => HAT.out ns no nc yx _ (by omega) (HSN.out.later (below_drewN (Below.refl _ wr) k)).size
          clear b0 b2 b3
          cases hin : Gr.has yx ns
          · have HP : Hid (Gr.put ns yx = ns ++ [yx]) := Gr.put_new (Gr.has_no hin)
            have hpz : Gr.pos yx ns = -1 := Gr.pos_none (Gr.has_no hin)
            rw [HP.out] at R
            generalize Gr.pos yx ns = pz at *
            subst hpz
            clear hp hin HP
            go_upto_region 11 with fail
            go_quiet (first | (go_at_call 31; exact Calls.quiet_of ((HAQ.out _).mono (fun e w' h => ⟨h.1, 0, h.2⟩))))
            go_upto_region 12 with fail
            have HS : Hid (∀ k w1, Lat (wr.drewN k).drew w1 → Below wr.heap.size wr w1) := fun k w1 hL => (below_drewN (Below.refl _ wr) k).trans hL.of_drew
            refine wp_region_lat [.val (.pointer (some ⟨W.heap.size, 1, none⟩)), .val (.slice no ns.length nc), .val (.pointer (some ⟨AB, 0, none⟩)), .val (.slice (some ⟨gb, 0, none⟩) xs.length xc), .val (.int .i64 q), .val (.pointer (some ⟨gb, q * 4, none⟩)), .val (.pointer (some ⟨gb, q * 4, none⟩)), .val (.pointer (some ⟨gb, q * 4 + 1, none⟩)), .val (.string yx), .fact (fun v w' => ∃ d, v = .slice (some ⟨d, 0, none⟩) 1 1 ∧ wr.heap.size ≤ d ∧ w'.heap[d]? = some (.cells #[.string yx] 9 (0, 0)))] [_, _, _] (by kernel_rfl) (by kernel_rfl) rfl ?kept ?walk
            case kept => exact ⟨fun v w1 w2 hL ⟨d, e, h1, h2⟩ => ⟨d, e, h1, by rw [hL.block _ (Array.getElem?_eq_some_iff.1 h2).1]; exact h2⟩, trivial⟩
            case walk =>
              refine wpFacts_val (by rfl) (fun w1 hL hd K hK => ?_) ?_
              · go_simp
                exact hK _ (Lat.refl _)
              refine wpFacts_norm (by simp only [Act.put, List.setIfInBounds_toArray, List.set_cons_zero, List.set_cons_succ]; rfl) (by simp only [List.nil_append]; rfl) ?_
              refine wpFacts_val (by rfl) (fun w1 hL hd K hK => ?_) ?_
              · have c2 := cell_later (HS.out _ w1 hL) g1
                go_simp
                exact hK _ (Lat.refl _)
              refine wpFacts_norm (by simp only [Act.put, List.setIfInBounds_toArray, List.set_cons_zero, List.set_cons_succ]; rfl) (by simp only [List.cons_append, List.nil_append]; rfl) ?_
              refine wpFacts_val (by rfl) (fun w1 hL hd K hK => ?_) ?_
              · go_simp
                exact hK _ (Lat.refl _)
              refine wpFacts_norm (by simp only [Act.put, List.setIfInBounds_toArray, List.set_cons_zero, List.set_cons_succ]; rfl) (by simp only [List.cons_append, List.nil_append]; rfl) ?_
              refine wpFacts_val (by rfl) (fun w1 hL hd K hK => ?_) ?_
              · have c2 := cell_later (HS.out _ w1 hL) a0
                go_simp
                exact hK _ (Lat.refl _)
              refine wpFacts_norm (by simp only [Act.put, List.setIfInBounds_toArray, List.set_cons_zero, List.set_cons_succ]; rfl) (by simp only [List.cons_append, List.nil_append]; rfl) ?_
              refine wpFacts_val (by rfl) (fun w1 hL hd K hK => ?_) ?_
              · go_simp
                exact hK _ (Lat.refl _)
              refine wpFacts_norm (by simp only [Act.put, List.setIfInBounds_toArray, List.set_cons_zero, List.set_cons_succ]; rfl) (by simp only [List.cons_append, List.nil_append]; rfl) ?_
              refine wpFacts_val (by rfl) (fun w1 hL hd K hK => ?_) ?_
              · go_simp
                exact hK _ (Lat.refl _)
              refine wpFacts_norm (by simp only [Act.put, List.setIfInBounds_toArray, List.set_cons_zero, List.set_cons_succ]; rfl) (by simp only [List.cons_append, List.nil_append]; rfl) ?_
              refine wpFacts_val (by rfl) (fun w1 hL hd K hK => ?_) ?_
              · go_simp
                exact hK _ (Lat.refl _)
              refine wpFacts_norm (by simp only [Act.put, List.setIfInBounds_toArray, List.set_cons_zero, List.set_cons_succ]; rfl) (by simp only [List.cons_append, List.nil_append]; rfl) ?_
              refine wpFacts_val (by rfl) (fun w1 hL hd K hK => ?_) ?_
              · go_simp
                exact hK _ (Lat.refl _)
              refine wpFacts_norm (by simp only [Act.put, List.setIfInBounds_toArray, List.set_cons_zero, List.set_cons_succ]; rfl) (by simp only [List.cons_append, List.nil_append]; rfl) ?_
              refine wpFacts_val (by rfl) (fun w1 hL hd K hK => ?_) ?_
              · have c2 := cell_later (HS.out _ w1 hL) b1
                go_simp
                exact hK _ (Lat.refl _)
              refine wpFacts_norm (by simp only [Act.put, List.setIfInBounds_toArray, List.set_cons_zero, List.set_cons_succ]; rfl) (by simp only [List.cons_append, List.nil_append]; rfl) ?_
              refine wpFacts_fact (by rfl) (fun w1 hL hd K hK => ?_) (fun v9 => ?_)
              · go_simp
                exact hK (.slice (some ⟨w1.heap.size, 0, none⟩) 1 1) _ (Below.alloc (Below.refl _ _) (Nat.le_refl _) _) ⟨w1.heap.size, rfl, (HS.out _ w1 hL).size, heap_alloc_new w1 _⟩
              refine wpFacts_norm (by simp only [Act.put, List.setIfInBounds_toArray, List.set_cons_zero, List.set_cons_succ]; rfl) (by simp only [List.cons_append, List.nil_append]; rfl) ?_
              intro w1' hL ha
              obtain ⟨d, rfl, hd1, hd2⟩ : ∃ d, v9 = .slice (some ⟨d, 0, none⟩) 1 1 ∧ wr.heap.size ≤ d ∧ w1'.heap[d]? = some (.cells #[.string yx] 9 (0, 0)) := allHold_get 9 ha rfl rfl
              clear ha
              have hI1 : Hid (RG1 W w1' (.slice no ns.length nc) ns) := hinv.out.later (HS.out _ w1' hL)
              have hdc : w1'.cell? ⟨d, 0, none⟩ = some (.string yx) := by simp [World.cell?, hd2]
              have hlt1 := hI1.out.lt
              refine wpList_append_str rfl (.tmp 56) (.tmp 64) rfl (W.heap.size + 1) (.slice no ns.length nc) ns rfl hI1.out.on d 1 yx rfl hdc (by omega) (by omega) ?_
              intro ga cap w2 ho2 hg2
              have hI2 : Hid (RG1 W (w2.setCell ⟨W.heap.size, 1, none⟩ (.slice (some ⟨ga, 0, none⟩) (ns.length + 1) cap)) (.slice (some ⟨ga, 0, none⟩) (ns.length + 1) cap) (ns ++ [yx])) := hI1.out.push hg2 ho2
              obtain ⟨e0, e1, e2, ez0, ez1, ez2⟩ := cells_three_z (hI1.out.grown hg2)
              clear hd1 hd2 hdc ho2 hg2 hI1 hL HS
              go_wp2_with fail
              go_roundw
              case rel => exact ⟨q + 1, some ⟨ga, 0, none⟩, cap, by omega, by go_num, by rw [R.out, List.length_append]; exact hI2⟩
              case measure => simp [intOf]; omega
          · have HP : Hid (Gr.put ns yx = ns) := Gr.put_in (Gr.has_yes hin)
            have hpz : ¬ Gr.pos yx ns < 0 := by have := Gr.pos_ge hin; omega
            have hpd : decide (Gr.pos yx ns < 0) = false := decide_eq_false hpz
            rw [HP.out] at R
            generalize Gr.pos yx ns = pz at *
            clear hp hin HP hpz
            go_upto_region 11 with fail
            go_quiet (first | (go_at_call 31; exact Calls.quiet_of ((HAQ.out _).mono (fun e w' h => ⟨h.1, 0, h.2⟩))))
            go_wp2_with fail
            go_roundw
            case rel => exact ⟨q + 1, no, nc, by omega, by go_num, by rw [R.out]; exact hinv.out.later (below_drewN (Below.refl _ wr) _)⟩
            case measure => simp [intOf]; omega
        · have HK : Hid (xs.take q = xs) := by show _ = _; rw [List.take_of_length_le (by omega)]
          rw [HK.out] at hinv hnl g1
          clear HK
          obtain ⟨B, HRG⟩ : ∃ B, Hid (RG2 W wr B (.slice none 0 0) (.slice no (Gr.names xs).length nc) [] (Gr.names xs)) := ⟨_, hinv.out.next⟩
          clear hinv g0 g1 g2 gz0 gz1 gz2 hlt0
          have EU : Hid (∀ p, Gr.undef (Gr.names xs) xs = some p → Gr.of xs = .error (13, p)) := fun p hp => by unfold Gr.of; rw [hp]
          have EL : Hid (Gr.undef (Gr.names xs) xs = none → (40 < (Gr.names xs).length ∨ 40 < (Gr.terms xs).length) → Gr.of xs = .error (14, 0)) := fun hp hq => by unfold Gr.of; rw [hp]; simp only; rw [if_pos hq]
          have EO : Hid (Gr.undef (Gr.names xs) xs = none → ¬ (40 < (Gr.names xs).length ∨ 40 < (Gr.terms xs).length) → Gr.of xs = .ok ⟨Gr.terms xs, Gr.names xs, Gr.rules (Gr.terms xs) (Gr.names xs) xs⟩) := fun hp hq => by unfold Gr.of; rw [hp]; simp only; rw [if_neg hq]
          have RS : Hid (∀ ts, ∀ k (h : k < xs.length), Gr.rules ts (Gr.names xs) (xs.take (k + 1)) = Gr.put (Gr.rules ts (Gr.names xs) (xs.take k)) (Gr.rule ts (Gr.names xs) xs[k])) := fun ts k h => Gr.rules_step _ _ xs k h
          have HTM : Hid (∀ s ∈ Gr.terms xs, s.size ≤ maxLen) := fun s hs => by obtain ⟨a, ha, t, ht, _, rfl⟩ := Gr.terms_mem xs s hs; exact (HT.out a ha).2 t ht
          have HNM : Hid (∀ s ∈ Gr.names xs, s.size ≤ maxLen) := fun s hs => by obtain ⟨a, ha, rfl⟩ := Gr.names_mem xs s hs; exact (HT.out a ha).1
          have hn60 : (Gr.names xs).length ≤ 60 := by omega
          clear HT
          generalize Gr.names xs = ns at *
          go_wp2_with fail
          clear a0 a1 a2 hlt hq
          go_loopw [7] (fun i wr => ∃ (q : Nat) (vo : Option Addr) (vc : Nat), q ≤ xs.length ∧ i = .int .i64 q ∧ Hid (RG2 W wr B (.slice vo (Gr.terms (xs.take q)).length vc) (.slice no ns.length nc) (Gr.terms (xs.take q)) ns) ∧ Hid (Gr.undef ns xs = Gr.undef ns (xs.drop q))) (fun i _ => xs.length - (intOf i).toNat)
          case atStart => exact ⟨0, none, 0, Nat.zero_le _, rfl, HRG, by show _ = _; rw [List.drop_zero]⟩
          case round =>
            obtain ⟨q, vo, vc, hq, rfl, hinv, hE⟩ := hrel
            clear HRG
            obtain ⟨a0, a1, a2, _⟩ := cells_three_z ((hinv.out.below.block _ hAW).trans HWA.out)
            have htl := Gr.terms_len xs H8.out q
            have hlt0 := hinv.out.lt
            by_cases hlt : q < xs.length
            · have hqi : (q : Int) < (xs.length : Int) := by omega
              obtain ⟨gb, ro, rc, hxo, hgb, b0, b1, b2, b3, bt⟩ := HAW.out q hlt
              subst hxo
              have HT : Hid (TksAt W.heap.size W ro xs[q].2) := bt
              have hyl := H8.out xs[q] (List.getElem_mem hlt)
              have R : Hid _ := Gr.terms_step xs q hlt
              have R2 : Hid (xs.drop q = xs[q] :: xs.drop (q + 1)) := List.drop_eq_getElem_cons hlt
              clear bt b0 b1 b2
              generalize xs[q] = y at *
              obtain ⟨⟨yk, yx, yp⟩, yr⟩ := y
              simp only at b3 HT hyl
              have HB3 : Hid (W.cell? ⟨gb, q * 4 + 3, none⟩ = some (.slice ro yr.length rc)) := b3
              have R' : Hid (Gr.terms (xs.take (q + 1)) = yr.foldl Gr.quote (Gr.terms (xs.take q))) := R.out
              have E1 : Hid (Gr.undef ns xs = (Gr.undefT ns yr).or (Gr.undef ns (xs.drop (q + 1)))) := by show _ = _; rw [hE.out, R2.out, Gr.undef]
              clear R R2 hE b3
              generalize Gr.terms (xs.take q) = tq at *
              go_wp2_with fail
              clear a0 a1 a2
              go_loopw [8] (fun i wq => ∃ (k : Nat) (zo : Option Addr) (zc : Nat), k ≤ yr.length ∧ i = .int .i64 k ∧ Hid (RG2 W wq B (.slice zo ((yr.take k).foldl Gr.quote tq).length zc) (.slice no ns.length nc) ((yr.take k).foldl Gr.quote tq) ns) ∧ Hid (Gr.undefT ns yr = Gr.undefT ns (yr.drop k))) (fun i _ => yr.length - (intOf i).toNat)
              case atStart => exact ⟨0, vo, vc, Nat.zero_le _, rfl, hinv, by show _ = _; rw [List.drop_zero]⟩
              case round =>
                obtain ⟨k, zo, zc, hk, rfl, hzi, hF⟩ := hrel
                have hql := Gr.quotes_len tq yr k
                have hlz := hzi.out.lt
                obtain ⟨a0, a1, a2, _⟩ := cells_three_z ((hzi.out.below.block _ hAW).trans HWA.out)
                have b3 := cell_later hzi.out.below HB3.out
                by_cases hkl : k < yr.length
                · have hki : (k : Int) < (yr.length : Int) := by omega
                  obtain ⟨tb, tO, rfl, ht1, ht2, t0, t1, t2⟩ := (HT.out.later hzi.out.below) k hkl
                  have R2 : Hid (yr.drop k = yr[k] :: yr.drop (k + 1)) := List.drop_eq_getElem_cons hkl
                  have R : Hid _ := Gr.quotes_step tq yr k hkl
                  generalize yr[k] = t at *
                  obtain ⟨tk, tx, tp⟩ := t
                  simp only at t0 t1 t2 R
                  generalize (yr.take k).foldl Gr.quote tq = ms at *
                  obtain ⟨g0, g1, g2, gz0, gz1, gz2⟩ := cells_three_z hzi.out.gb
                  have hzb : Hid (Below wr.heap.size wr (wr.alloc (Obj.cells #[.int .i64 tk, .string tx, .int .i64 tp] 69))) := (Below.refl _ wr).alloc (Nat.le_refl _) _
                  have hz1 : Hid (RG2 W (wr.alloc (Obj.cells #[.int .i64 tk, .string tx, .int .i64 tp] 69)) B (.slice zo ms.length zc) (.slice no ns.length nc) ms ns) := hzi.out.later hzb.out
                  have HAN : Hid (Calls Try.prog 31 #[.slice no ns.length nc, .string tx] (wr.alloc (Obj.cells #[.int .i64 tk, .string tx, .int .i64 tp] 69)) fun e w' => e = .returned (.int .i64 (Gr.pos tx ns)) ∧ w' = (wr.alloc (Obj.cells #[.int .i64 tk, .string tx, .int .i64 tp] 69))) := by
                    obtain ⟨_, _, hv, hr, _⟩ := OwnStrs.read hz1.out.on
                    cases hv
                    exact HAT.out ns no nc tx _ (by omega) hr
                  have HAM : Hid (Calls Try.prog 31 #[.slice zo ms.length zc, .string tx] (wr.alloc (Obj.cells #[.int .i64 tk, .string tx, .int .i64 tp] 69)) fun e w' => e = .returned (.int .i64 (Gr.pos tx ms)) ∧ w' = (wr.alloc (Obj.cells #[.int .i64 tk, .string tx, .int .i64 tp] 69))) := by
                    obtain ⟨_, _, hv, hr, _⟩ := OwnStrs.read hz1.out.ot
                    cases hv
                    exact HAT.out ms zo zc tx _ (by omega) hr
                  have hWr : W.heap.size < wr.heap.size := by omega
                  by_cases h1 : tk = 1
                  · subst h1
                    cases hin : Gr.has tx ns
                    · have E2 : Hid (Gr.undef ns xs = some tp) := by
                        show _ = _
                        rw [E1.out, hF.out, R2.out, Gr.undefT]; simp [hin]
                      have hpz : Gr.pos tx ns = -1 := Gr.pos_none (Gr.has_no hin)
                      rw [hpz] at HAN
                      have P : Hid (Gr.of xs = .error (13, tp)) := EU.out tp E2.out
                      obtain ⟨r0, r1, r2, r3, r4, z0, z1, z2, z3, z4⟩ := cells_five_z ((hzi.out.below.block _ (by omega)).trans HWN.out)
                      have hNw : w.heap.size < wr.heap.size := by omega
                      clear E1 E2 EU EL EO RS HAM hF R R2 hpz hin
                      go_wp2_with (first | (go_at_call 31; refine HAN.out.mono ?_; rintro e w2 ⟨rfl, rfl⟩))
                      refine bodyPost_ret (v := .agg #[.slice none 0 0, .slice none 0 0, .slice none 0 0, .int .i64 13, .int .i64 tp]) (by simp [results, Try.results11, go_sem, r0, r1, r2, r3, r4, hNw]) rfl (GF.out (13, tp) _ P.out ?_)
                      exact (((((HBW.out.trans (hzi.out.below.mono HBW.out.size)).setCell (by exact Nat.le_refl _) _).setCell (by exact Nat.le_refl _) _).setCell (by exact Nat.le_refl _) _).setCell (by exact Nat.le_refl _) _).setCell (by exact Nat.le_refl _) _ |>.alloc (by simp; omega) _
                    · have E2 : Hid (Gr.undefT ns yr = Gr.undefT ns (yr.drop (k + 1))) := by
                        show _ = _
                        rw [hF.out, R2.out, Gr.undefT]; simp [hin]
                      have hpd : decide (Gr.pos tx ns < 0) = false := decide_eq_false (by have := Gr.pos_ge hin; omega)
                      have Q : Hid (Gr.quote ms ⟨1, tx, tp⟩ = ms) := by show _ = _; simp [Gr.quote]
                      rw [Q.out] at R
                      clear E1 EU EL EO RS HAM hF R2 hin Q
                      generalize Gr.pos tx ns = pz at *
                      go_wp2_with (first | (go_at_call 31; refine HAN.out.mono ?_; rintro e w2 ⟨rfl, rfl⟩))
                      go_roundw
                      case rel => exact ⟨k + 1, zo, zc, by omega, by go_num, by rw [R.out]; exact hz1, E2⟩
                      case measure => simp [intOf]; omega
                  · have E2 : Hid (Gr.undefT ns yr = Gr.undefT ns (yr.drop (k + 1))) := by
                      show _ = _
                      rw [hF.out, R2.out, Gr.undefT]; simp [h1]
                    have hk1 : (tk == 1) = false := by simp [h1]
                    clear E1 EU EL EO RS hF R2 h1 HAN
                    by_cases h2 : tk = 2
                    · subst h2
                      have Q : Hid (Gr.quote ms ⟨2, tx, tp⟩ = Gr.put ms tx) := by show _ = _; simp [Gr.quote]
                      rw [Q.out] at R
                      cases hin : Gr.has tx ms
                      · have HP : Hid (Gr.put ms tx = ms ++ [tx]) := Gr.put_new (Gr.has_no hin)
                        have hpz : Gr.pos tx ms = -1 := Gr.pos_none (Gr.has_no hin)
                        rw [hpz] at HAM
                        rw [HP.out] at R
                        clear HP hpz hin Q
                        have hb3 : Hid (Below (wr.alloc (Obj.cells #[.int .i64 2, .string tx, .int .i64 tp] 69)).heap.size (wr.alloc (Obj.cells #[.int .i64 2, .string tx, .int .i64 tp] 69)) ((wr.alloc (Obj.cells #[.int .i64 2, .string tx, .int .i64 tp] 69)).alloc (Obj.cells #[.string tx] 9))) := (Below.refl _ _).alloc (Nat.le_refl _) _
                        have hz3 : Hid (RG2 W ((wr.alloc (Obj.cells #[.int .i64 2, .string tx, .int .i64 tp] 69)).alloc (Obj.cells #[.string tx] 9)) B (.slice zo ms.length zc) (.slice no ns.length nc) ms ns) := hz1.out.later hb3.out
                        go_wp2_with (first
                          | (go_at_call 31; refine HAM.out.mono ?_; rintro e w2 ⟨rfl, rfl⟩)
                          | (at_builtin; refine wpList_append_str rfl _ _ rfl B _ ms rfl hz3.out.ot (wr.heap.size + 1) 1 tx rfl (by simp [go_sem]) (by omega) (by simp; omega) ?_; intro ga cap w4 ho4 hg4; obtain ⟨e0, e1, e2, ez0, ez1, ez2⟩ := cells_three_z (hz3.out.grown hg4)))
                        have hz5 : Hid (RG2 W (w4.setCell ⟨W.heap.size, 0, none⟩ (.slice (some ⟨ga, 0, none⟩) (ms.length + 1) cap)) B (.slice (some ⟨ga, 0, none⟩) (ms.length + 1) cap) (.slice no ns.length nc) (ms ++ [tx]) ns) := hz3.out.push hg4 ho4
                        go_roundw
                        case rel => exact ⟨k + 1, some ⟨ga, 0, none⟩, cap, by omega, by go_num, by rw [R.out, List.length_append]; exact hz5, E2⟩
                        case measure => simp [intOf]; omega
                      · have HP : Hid (Gr.put ms tx = ms) := Gr.put_in (Gr.has_yes hin)
                        have hpd : decide (Gr.pos tx ms < 0) = false := decide_eq_false (by have := Gr.pos_ge hin; omega)
                        rw [HP.out] at R
                        clear HP hin Q
                        generalize Gr.pos tx ms = pz at *
                        go_wp2_with (first | (go_at_call 31; refine HAM.out.mono ?_; rintro e w2 ⟨rfl, rfl⟩))
                        go_roundw
                        case rel => exact ⟨k + 1, zo, zc, by omega, by go_num, by rw [R.out]; exact hz1, E2⟩
                        case measure => simp [intOf]; omega
                    · have hk2 : (tk == 2) = false := by simp [h2]
                      have Q : Hid (Gr.quote ms ⟨tk, tx, tp⟩ = ms) := by show _ = _; simp [Gr.quote, h2]
                      rw [Q.out] at R
                      clear h2 HAM Q
                      go_wp2_with fail
                      go_roundw
                      case rel => exact ⟨k + 1, zo, zc, by omega, by go_num, by rw [R.out]; exact hz1, E2⟩
                      case measure => simp [intOf]; omega
                · have E2 : Hid (Gr.undef ns xs = Gr.undef ns (xs.drop (q + 1))) := by
                    show _ = _
                    have := hF.out
                    rw [List.drop_of_length_le (by omega)] at this
                    rw [E1.out, this]; rfl
                  have HK : Hid ((yr.take k).foldl Gr.quote tq = Gr.terms (xs.take (q + 1))) := by show _ = _; rw [List.take_of_length_le (by omega), R'.out]
                  rw [HK.out] at hzi
                  clear E1 hF
                  go_wp2_with fail
                  go_roundw
                  case rel => exact ⟨q + 1, zo, zc, by omega, by go_num, hzi, E2⟩
                  case measure => simp [intOf]; omega
            · have E2 : Hid (Gr.undef ns xs = none) := by show _ = _; rw [hE.out, List.drop_of_length_le (by omega)]; rfl
              have HK : Hid (xs.take q = xs) := by show _ = _; rw [List.take_of_length_le (by omega)]
              rw [HK.out] at hinv htl
              clear HK hE
              obtain ⟨C, HRG⟩ : ∃ C, Hid (RG3 W wr C (.slice vo (Gr.terms xs).length vc) (.slice no ns.length nc) (.slice none 0 0) (Gr.terms xs) ns []) := ⟨_, hinv.out.next⟩
              have EL' : Hid _ := EL.out E2.out
              have EO' : Hid _ := EO.out E2.out
              clear EL EO EU E2 hinv
              generalize Gr.terms xs = tq at *
              obtain ⟨g0, g1, g2, gz0, gz1, gz2⟩ := cells_three_z HRG.out.gb
              have hlr := HRG.out.lt
              by_cases hbig : 40 < ns.length ∨ 40 < tq.length
              · have P : Hid (Gr.of xs = .error (14, 0)) := EL'.out hbig
                obtain ⟨r0, r1, r2, r3, r4, z0, z1, z2, z3, z4⟩ := cells_five_z ((HRG.out.below.block _ (by omega)).trans HWN.out)
                have hNw : w.heap.size < wr.heap.size := by omega
                have HBF : Hid (Below w.heap.size w wr) := HBW.out.trans (HRG.out.below.mono HBW.out.size)
                clear EL' EO' RS HAT
                by_cases hn : 40 < ns.length
                · have hni : (40 : Int) < (ns.length : Int) := by omega
                  clear hbig hn
                  go_wp2_with fail
                  refine bodyPost_ret (v := .agg #[.slice none 0 0, .slice none 0 0, .slice none 0 0, .int .i64 14, .int .i64 0]) (by simp [results, Try.results11, go_sem, r0, r1, r2, r3, r4]) rfl (GF.out (14, 0) _ P.out ?_)
                  exact ((((HBF.out.setCell (by exact Nat.le_refl _) _).setCell (by exact Nat.le_refl _) _).setCell (by exact Nat.le_refl _) _).setCell (by exact Nat.le_refl _) _).setCell (by exact Nat.le_refl _) _
                · have hni : decide ((40 : Int) < (ns.length : Int)) = false := by simp; omega
                  have hti : (40 : Int) < (tq.length : Int) := by omega
                  clear hbig hn
                  go_wp2_with fail
                  refine bodyPost_ret (v := .agg #[.slice none 0 0, .slice none 0 0, .slice none 0 0, .int .i64 14, .int .i64 0]) (by simp [results, Try.results11, go_sem, r0, r1, r2, r3, r4]) rfl (GF.out (14, 0) _ P.out ?_)
                  exact ((((HBF.out.setCell (by exact Nat.le_refl _) _).setCell (by exact Nat.le_refl _) _).setCell (by exact Nat.le_refl _) _).setCell (by exact Nat.le_refl _) _).setCell (by exact Nat.le_refl _) _
              · have P : Hid (Gr.of xs = .ok ⟨tq, ns, Gr.rules tq ns xs⟩) := EO'.out hbig
                have hni : decide ((40 : Int) < (ns.length : Int)) = false := by simp; omega
                have hti : decide ((40 : Int) < (tq.length : Int)) = false := by simp; omega
                have hn40 : ns.length ≤ 40 := by omega
                have ht40 : tq.length ≤ 40 := by omega
                have RS' : Hid _ := RS.out tq
                clear EL' EO' hbig GF RS
                go_wp2_with fail
                clear hni hti g0 g1 g2 gz0 gz1 gz2 a0 a1 a2 hlt hq htl hlr hlt0 hnl
                go_loopw [10] (fun i wr => ∃ (q : Nat) (ra : Option Addr) (rc : Nat), q ≤ xs.length ∧ i = .int .i64 q ∧ Hid (RG3 W wr C (.slice vo tq.length vc) (.slice no ns.length nc) (.slice ra (Gr.rules tq ns (xs.take q)).length rc) tq ns (Gr.rules tq ns (xs.take q)))) (fun i _ => xs.length - (intOf i).toNat)
                case atStart => exact ⟨0, none, 0, Nat.zero_le _, rfl, HRG⟩
                case round =>
                  obtain ⟨q, ra, rc, hq, rfl, hinv⟩ := hrel
                  rename World => V
                  clear HRG
                  obtain ⟨g0, g1, g2, gz0, gz1, gz2⟩ := cells_three_z hinv.out.gb
                  obtain ⟨a0, a1, a2, _⟩ := cells_three_z ((hinv.out.below.block _ hAW).trans HWA.out)
                  have hlr := hinv.out.lt
                  have hrl := Gr.rules_len tq ns xs q
                  by_cases hlt : q < xs.length
                  · have hqi : (q : Int) < (xs.length : Int) := by omega
                    obtain ⟨gb, ro, rrc, hxo, hgb, b0, b1, b2, b3, bt⟩ := HAW.out q hlt
                    subst hxo
                    have HTW : Hid (TksAt W.heap.size W ro xs[q].2) := bt
                    have hyl := H8.out xs[q] (List.getElem_mem hlt)
                    have R : Hid _ := RS'.out q hlt
                    have HR8 : Hid (∀ r ∈ Gr.rules tq ns (xs.take q), r.2.length ≤ 8) := Gr.rules_right tq ns xs H8.out q
                    have HKQ : Hid _ := HKD.out xs[q] (List.getElem_mem hlt)
                    clear bt b0 b2
                    generalize xs[q] = y at *
                    obtain ⟨⟨yk, yx, yp⟩, yr⟩ := y
                    simp only at b1 b3 HTW hyl R HKQ
                    replace b1 := cell_later hinv.out.below b1
                    have HB3 : Hid (W.cell? ⟨gb, q * 4 + 3, none⟩ = some (.slice ro yr.length rrc)) := b3
                    clear b3
                    generalize Gr.rules tq ns (xs.take q) = rs at *
                    have HL1 : Hid (Gr.rule tq ns (⟨yk, yx, yp⟩, yr) = ((tq.length : Int) + Gr.pos yx ns, yr.map (Gr.sym tq ns))) := by
                      show _ = _; unfold Gr.rule Gr.sym; simp [HKQ.out.1]
                    rw [HL1.out] at R
                    have hps := (Gr.pos_has yx ns).1
                    have hps2 := (Gr.pos_has yx ns).2.2
                    have HAQ : Hid (∀ W', Below V.heap.size V W' → Calls Try.prog 31 #[.slice no ns.length nc, .string yx] W' fun e w' => e = .returned (.int .i64 (Gr.pos yx ns)) ∧ w' = W') := fun W' hW' => by
                      obtain ⟨_, _, hv, hr, _⟩ := OwnStrs.read (hinv.out.later hW').on
                      cases hv
                      exact HAT.out ns no nc yx _ (by omega) hr
                    generalize Gr.pos yx ns = pz at *
                    clear HL1
                    go_upto_region 29 with fail
                    have HS : Hid (∀ w1, Lat V.drew w1 → Below V.heap.size V w1) := fun w1 hL => hL.of_drew
                    refine wp_region_lat [.val (.pointer (some ⟨W.heap.size, 0, none⟩)), .val (.slice vo tq.length vc), .val (.int .i64 tq.length), .val (.pointer (some ⟨W.heap.size, 1, none⟩)), .val (.slice no ns.length nc), .val (.pointer (some ⟨AB, 0, none⟩)), .val (.slice (some ⟨gb, 0, none⟩) xs.length xc), .val (.int .i64 q), .val (.pointer (some ⟨gb, q * 4, none⟩)), .val (.pointer (some ⟨gb, q * 4, none⟩)), .val (.pointer (some ⟨gb, q * 4 + 1, none⟩)), .val (.string yx), .val (.int .i64 pz), .val (.int .i64 ((tq.length : Int) + pz)), .val (.agg #[.int .i64 ((tq.length : Int) + pz), .slice none 0 0]), .fact (fun v w' => ∃ d, v = .pointer (some ⟨d, 0, none⟩) ∧ V.heap.size ≤ d ∧ w'.heap[d]? = some (.cells #[.int .i64 0, .slice none 0 0] 54 (0, 0)))] [_] (by kernel_rfl) (by kernel_rfl) rfl ?kept ?walk
                    case kept => exact ⟨fun v w1 w2 hL ⟨d, e, h1, h2⟩ => ⟨d, e, h1, by rw [hL.block _ (Array.getElem?_eq_some_iff.1 h2).1]; exact h2⟩, trivial⟩
                    case walk =>
                      refine wpFacts_val (by rfl) (fun w1 hL hd K hK => ?_) ?_
                      · go_simp
                        exact hK _ (Lat.refl _)
                      refine wpFacts_norm (by simp only [Act.put, List.setIfInBounds_toArray, List.set_cons_zero, List.set_cons_succ]; rfl) (by simp only [List.nil_append]; rfl) ?_
                      refine wpFacts_val (by rfl) (fun w1 hL hd K hK => ?_) ?_
                      · have c2 := cell_later (HS.out w1 hL) g0
                        go_simp
                        exact hK _ (Lat.refl _)
                      refine wpFacts_norm (by simp only [Act.put, List.setIfInBounds_toArray, List.set_cons_zero, List.set_cons_succ]; rfl) (by simp only [List.cons_append, List.nil_append]; rfl) ?_
                      refine wpFacts_val (by rfl) (fun w1 hL hd K hK => ?_) ?_
                      · go_simp
                        exact hK _ (Lat.refl _)
                      refine wpFacts_norm (by simp only [Act.put, List.setIfInBounds_toArray, List.set_cons_zero, List.set_cons_succ]; rfl) (by simp only [List.cons_append, List.nil_append]; rfl) ?_
                      refine wpFacts_val (by rfl) (fun w1 hL hd K hK => ?_) ?_
                      · go_simp
                        exact hK _ (Lat.refl _)
                      refine wpFacts_norm (by simp only [Act.put, List.setIfInBounds_toArray, List.set_cons_zero, List.set_cons_succ]; rfl) (by simp only [List.cons_append, List.nil_append]; rfl) ?_
                      refine wpFacts_val (by rfl) (fun w1 hL hd K hK => ?_) ?_
                      · have c2 := cell_later (HS.out w1 hL) g1
                        go_simp
                        exact hK _ (Lat.refl _)
                      refine wpFacts_norm (by simp only [Act.put, List.setIfInBounds_toArray, List.set_cons_zero, List.set_cons_succ]; rfl) (by simp only [List.cons_append, List.nil_append]; rfl) ?_
                      refine wpFacts_val (by rfl) (fun w1 hL hd K hK => ?_) ?_
                      · go_simp
                        exact hK _ (Lat.refl _)
                      refine wpFacts_norm (by simp only [Act.put, List.setIfInBounds_toArray, List.set_cons_zero, List.set_cons_succ]; rfl) (by simp only [List.cons_append, List.nil_append]; rfl) ?_
                      refine wpFacts_val (by rfl) (fun w1 hL hd K hK => ?_) ?_
                      · have c2 := cell_later (HS.out w1 hL) a0
                        go_simp
                        exact hK _ (Lat.refl _)
                      refine wpFacts_norm (by simp only [Act.put, List.setIfInBounds_toArray, List.set_cons_zero, List.set_cons_succ]; rfl) (by simp only [List.cons_append, List.nil_append]; rfl) ?_
                      refine wpFacts_val (by rfl) (fun w1 hL hd K hK => ?_) ?_
                      · go_simp
                        exact hK _ (Lat.refl _)
                      refine wpFacts_norm (by simp only [Act.put, List.setIfInBounds_toArray, List.set_cons_zero, List.set_cons_succ]; rfl) (by simp only [List.cons_append, List.nil_append]; rfl) ?_
                      refine wpFacts_val (by rfl) (fun w1 hL hd K hK => ?_) ?_
                      · go_simp
                        exact hK _ (Lat.refl _)
                      refine wpFacts_norm (by simp only [Act.put, List.setIfInBounds_toArray, List.set_cons_zero, List.set_cons_succ]; rfl) (by simp only [List.cons_append, List.nil_append]; rfl) ?_
                      refine wpFacts_val (by rfl) (fun w1 hL hd K hK => ?_) ?_
                      · go_simp
                        exact hK _ (Lat.refl _)
                      refine wpFacts_norm (by simp only [Act.put, List.setIfInBounds_toArray, List.set_cons_zero, List.set_cons_succ]; rfl) (by simp only [List.cons_append, List.nil_append]; rfl) ?_
                      refine wpFacts_val (by rfl) (fun w1 hL hd K hK => ?_) ?_
                      · go_simp
                        exact hK _ (Lat.refl _)
                      refine wpFacts_norm (by simp only [Act.put, List.setIfInBounds_toArray, List.set_cons_zero, List.set_cons_succ]; rfl) (by simp only [List.cons_append, List.nil_append]; rfl) ?_
                      refine wpFacts_val (by rfl) (fun w1 hL hd K hK => ?_) ?_
                      · have c2 := cell_later (HS.out w1 hL) b1
                        go_simp
                        exact hK _ (Lat.refl _)
                      refine wpFacts_norm (by simp only [Act.put, List.setIfInBounds_toArray, List.set_cons_zero, List.set_cons_succ]; rfl) (by simp only [List.cons_append, List.nil_append]; rfl) ?_
                      refine wpFacts_val (by rfl) (fun w1 hL hd K hK => ?_) ?_
                      · go_simp
                        go_at_call 31
                        refine (HAQ.out w1 (HS.out w1 hL)).mono ?_
                        rintro e w2 ⟨rfl, rfl⟩
                        exact hK _ (Lat.refl _)
                      refine wpFacts_norm (by simp only [Act.put, List.setIfInBounds_toArray, List.set_cons_zero, List.set_cons_succ]; rfl) (by simp only [List.cons_append, List.nil_append]; rfl) ?_
                      refine wpFacts_val (by rfl) (fun w1 hL hd K hK => ?_) ?_
                      · have hwz : IntKind.i64.wrap ((tq.length : Int) + pz) = (tq.length : Int) + pz := by rw [IntKind.wrap_i64]; omega
                        go_simp
                        first | rw [hwz] | skip
                        exact hK _ (Lat.refl _)
                      refine wpFacts_norm (by simp only [Act.put, List.setIfInBounds_toArray, List.set_cons_zero, List.set_cons_succ]; rfl) (by simp only [List.cons_append, List.nil_append]; rfl) ?_
                      refine wpFacts_val (by rfl) (fun w1 hL hd K hK => ?_) ?_
                      · go_simp
                        exact hK _ (Lat.refl _)
                      refine wpFacts_norm (by simp only [Act.put, List.setIfInBounds_toArray, List.set_cons_zero, List.set_cons_succ]; rfl) (by simp only [List.cons_append, List.nil_append]; rfl) ?_
                      refine wpFacts_fact (by rfl) (fun w1 hL hd K hK => ?_) (fun v15 => ?_)
                      · go_simp
                        exact hK (.pointer (some ⟨w1.heap.size, 0, none⟩)) _ (Below.alloc (Below.refl _ _) (Nat.le_refl _) _) ⟨w1.heap.size, rfl, (HS.out w1 hL).size, heap_alloc_new w1 _⟩
                      refine wpFacts_norm (by simp only [Act.put, List.setIfInBounds_toArray, List.set_cons_zero, List.set_cons_succ]; rfl) (by simp only [List.cons_append, List.nil_append]; rfl) ?_
                      intro w1' hL ha
                      obtain ⟨X, rfl, hX1, hX2⟩ : ∃ d, v15 = .pointer (some ⟨d, 0, none⟩) ∧ V.heap.size ≤ d ∧ w1'.heap[d]? = some (.cells #[.int .i64 0, .slice none 0 0] 54 (0, 0)) := allHold_get 15 ha rfl rfl
                      clear ha
                      have HBV : Hid (Below V.heap.size V w1') := HS.out w1' hL
                      obtain ⟨x0, x1, xz0, xz1⟩ := cells_two_z hX2
                      have hXs : X < w1'.heap.size := (Array.getElem?_eq_some_iff.1 hX2).1
                      have HX0 : Hid (RX V ((w1'.setCell ⟨X, 0, none⟩ (.int .i64 ((tq.length : Int) + pz))).setCell ⟨X, 1, none⟩ (.slice none 0 0)) X ((tq.length : Int) + pz) (.slice none 0 0) []) := by
                        refine ⟨(HBV.out.setCell (by exact hX1) _).setCell (by exact hX1) _, ⟨hX1, by rw [size_setCell, size_setCell]; exact hXs⟩, by simp [World.setCell, Array.getElem?_modify, hX2], World.ownsRow_nil _ _ _ _⟩
                      have HGV : Hid (RG3 W V C (.slice vo tq.length vc) (.slice no ns.length nc) (.slice ra rs.length rc) tq ns rs) := hinv
                      have HVA : Hid (∀ W', Below V.heap.size V W' → ∀ (l : List ByteArray) (la : Option Addr) (lc : Nat) (x : ByteArray), (l = tq ∧ la = vo ∧ lc = vc) ∨ (l = ns ∧ la = no ∧ lc = nc) → Calls Try.prog 31 #[.slice la l.length lc, .string x] W' fun e w' => e = .returned (.int .i64 (Gr.pos x l)) ∧ w' = W') := fun W' hW' l la lc x h => by
                        have hg := HGV.out.later hW'
                        rcases h with ⟨rfl, rfl, rfl⟩ | ⟨rfl, rfl, rfl⟩
                        · obtain ⟨_, _, hv, hr, _⟩ := OwnStrs.read hg.ot
                          cases hv
                          exact HAT.out _ _ _ x _ (by omega) hr
                        · obtain ⟨_, _, hv, hr, _⟩ := OwnStrs.read hg.on
                          cases hv
                          exact HAT.out _ _ _ x _ (by omega) hr
                      clear hL HS HAQ hinv g0 g1 g2 gz0 gz1 gz2 a0 a1 a2 b1
                      generalize (tq.length : Int) + pz = lz at *
                      go_wp2_with fail
                      clear x0 x1 xz0 xz1 hX2 HBV
                      go_loopw [12] (fun i wq => ∃ (k : Nat) (zo : Option Addr) (zc : Nat), k ≤ yr.length ∧ i = .int .i64 k ∧ Hid (RX V wq X lz (.slice zo k zc) ((yr.take k).map (Gr.sym tq ns)))) (fun i _ => yr.length - (intOf i).toNat)
                      case atStart => exact ⟨0, none, 0, Nat.zero_le _, rfl, HX0⟩
                      case round =>
                        obtain ⟨k, zo, zc, hk, rfl, hxi⟩ := hrel
                        clear HX0
                        have hG : Hid (RG3 W wr C (.slice vo tq.length vc) (.slice no ns.length nc) (.slice ra rs.length rc) tq ns rs) := HGV.out.later hxi.out.below
                        obtain ⟨g0, g1, g2, gz0, gz1, gz2⟩ := cells_three_z hG.out.gb
                        obtain ⟨a0, a1, a2, _⟩ := cells_three_z ((hG.out.below.block _ hAW).trans HWA.out)
                        have b3 := cell_later hG.out.below HB3.out
                        obtain ⟨x0, x1, xz0, xz1⟩ := cells_two_z hxi.out.xb
                        have hxl := hxi.out.lt
                        by_cases hkl : k < yr.length
                        · have hki : (k : Int) < (yr.length : Int) := by omega
                          obtain ⟨tb, tO, rfl, ht1, ht2, t0, t1, t2⟩ := (HTW.out.later hG.out.below) k hkl
                          have HKK : Hid ((yr.take (k + 1)).map (Gr.sym tq ns) = (yr.take k).map (Gr.sym tq ns) ++ [Gr.sym tq ns yr[k]]) := by show _ = _; rw [List.take_add_one, List.getElem?_eq_getElem hkl, List.map_append]; rfl
                          have HQ : Hid (((yr.take k).map (Gr.sym tq ns)).length = k) := by show _ = _; rw [List.length_map, List.length_take]; omega
                          have hkd := HKQ.out.2 yr[k] (List.getElem_mem hkl)
                          generalize yr[k] = t at *
                          obtain ⟨tk, tx, tp⟩ := t
                          simp only at t0 t1 t2 hkd
                          generalize (yr.take k).map (Gr.sym tq ns) = done at *
                          have hzb : Hid (Below wr.heap.size wr (wr.alloc (Obj.cells #[.int .i64 tk, .string tx, .int .i64 tp] 69))) := (Below.refl _ wr).alloc (Nat.le_refl _) _
                          have hx1 : Hid (RX V (wr.alloc (Obj.cells #[.int .i64 tk, .string tx, .int .i64 tp] 69)) X lz (.slice zo k zc) done) := hxi.out.later hzb.out
                          have hG1 : Hid (RG3 W (wr.alloc (Obj.cells #[.int .i64 tk, .string tx, .int .i64 tp] 69)) C (.slice vo tq.length vc) (.slice no ns.length nc) (.slice ra rs.length rc) tq ns rs) := hG.out.later hzb.out
                          have hyb : Hid ((wr.alloc (Obj.cells #[.int .i64 tk, .string tx, .int .i64 tp] 69)).heap[wr.heap.size]? = some (.cells #[.int .i64 tk, .string tx, .int .i64 tp] 69 (0, 0))) := heap_alloc_new wr _
                          rcases hkd with rfl | rfl
                          · go_upto_region 35 with fail
                            have HS : Hid (∀ w1, Lat (wr.alloc (Obj.cells #[.int .i64 1, .string tx, .int .i64 tp] 69)).drew w1 → Below (wr.alloc (Obj.cells #[.int .i64 1, .string tx, .int .i64 tp] 69)).heap.size (wr.alloc (Obj.cells #[.int .i64 1, .string tx, .int .i64 tp] 69)) w1) := fun w1 hL => hL.of_drew
                            have HW0 : Hid (wr.heap.size ≤ (wr.alloc (Obj.cells #[.int .i64 1, .string tx, .int .i64 tp] 69)).heap.size) := by show _ ≤ _; simp
                            obtain ⟨y0, y1, y2, _⟩ := cells_three_z hyb.out
                            clear x0 x1 xz0 xz1 g0 g1 g2 gz0 gz1 gz2
                            obtain ⟨x0, x1, xz0, xz1⟩ := cells_two_z hx1.out.xb
                            obtain ⟨g0, g1, g2, gz0, gz1, gz2⟩ := cells_three_z hG1.out.gb
                            generalize (wr.alloc (Obj.cells #[.int .i64 1, .string tx, .int .i64 tp] 69)) = V1 at *
                            have HSY : Hid (Gr.sym tq ns ⟨1, tx, tp⟩ = (tq.length : Int) + Gr.pos tx ns) := by show _ = _; simp [Gr.sym]
                            have hps := (Gr.pos_has tx ns).1
                            have hps2 := (Gr.pos_has tx ns).2.2
                            have HAQ : Hid (∀ W', Below V1.heap.size V1 W' → Calls Try.prog 31 #[.slice no ns.length nc, .string tx] W' fun e w' => e = .returned (.int .i64 (Gr.pos tx ns)) ∧ w' = W') := fun W' hW' => HVA.out W' (hx1.out.below.trans (hW'.mono hx1.out.below.size)) ns no nc tx (.inr ⟨rfl, rfl, rfl⟩)
                            rw [HSY.out] at HKK
                            generalize Gr.pos tx ns = p2 at *
                            have hwz : IntKind.i64.wrap ((tq.length : Int) + p2) = (tq.length : Int) + p2 := by rw [IntKind.wrap_i64]; omega
                            generalize hsv : (tq.length : Int) + p2 = sv at *
                            clear HSY
                            refine wp_region_lat [.val (.pointer (some ⟨X, 1, none⟩)), .val (.slice zo k zc), .val (.pointer (some ⟨W.heap.size, 0, none⟩)), .val (.slice vo tq.length vc), .val (.int .i64 tq.length), .val (.pointer (some ⟨W.heap.size, 1, none⟩)), .val (.slice no ns.length nc), .val (.pointer (some ⟨wr.heap.size, 1, none⟩)), .val (.string tx), .val (.int .i64 p2), .val (.int .i64 sv), .fact (fun v w' => ∃ d, v = .slice (some ⟨d, 0, none⟩) 1 1 ∧ wr.heap.size ≤ d ∧ w'.heap[d]? = some (.cells #[.int .i64 sv] 3 (0, 0)))] [_, _, _] (by kernel_rfl) (by kernel_rfl) rfl ?kept ?walk
                            case kept => exact ⟨fun v w1 w2 hL ⟨d, e, h1, h2⟩ => ⟨d, e, h1, by rw [hL.block _ (Array.getElem?_eq_some_iff.1 h2).1]; exact h2⟩, trivial⟩
                            case walk =>
                              refine wpFacts_val (by rfl) (fun w1 hL hd K hK => ?_) ?_
                              · go_simp
                                exact hK _ (Lat.refl _)
                              refine wpFacts_norm (by simp only [Act.put, List.setIfInBounds_toArray, List.set_cons_zero, List.set_cons_succ]; rfl) (by simp only [List.nil_append]; rfl) ?_
                              refine wpFacts_val (by rfl) (fun w1 hL hd K hK => ?_) ?_
                              · have c2 := cell_later (HS.out w1 hL) x1
                                go_simp
                                exact hK _ (Lat.refl _)
                              refine wpFacts_norm (by simp only [Act.put, List.setIfInBounds_toArray, List.set_cons_zero, List.set_cons_succ]; rfl) (by simp only [List.cons_append, List.nil_append]; rfl) ?_
                              refine wpFacts_val (by rfl) (fun w1 hL hd K hK => ?_) ?_
                              · go_simp
                                exact hK _ (Lat.refl _)
                              refine wpFacts_norm (by simp only [Act.put, List.setIfInBounds_toArray, List.set_cons_zero, List.set_cons_succ]; rfl) (by simp only [List.cons_append, List.nil_append]; rfl) ?_
                              refine wpFacts_val (by rfl) (fun w1 hL hd K hK => ?_) ?_
                              · have c2 := cell_later (HS.out w1 hL) g0
                                go_simp
                                exact hK _ (Lat.refl _)
                              refine wpFacts_norm (by simp only [Act.put, List.setIfInBounds_toArray, List.set_cons_zero, List.set_cons_succ]; rfl) (by simp only [List.cons_append, List.nil_append]; rfl) ?_
                              refine wpFacts_val (by rfl) (fun w1 hL hd K hK => ?_) ?_
                              · go_simp
                                exact hK _ (Lat.refl _)
                              refine wpFacts_norm (by simp only [Act.put, List.setIfInBounds_toArray, List.set_cons_zero, List.set_cons_succ]; rfl) (by simp only [List.cons_append, List.nil_append]; rfl) ?_
                              refine wpFacts_val (by rfl) (fun w1 hL hd K hK => ?_) ?_
                              · go_simp
                                exact hK _ (Lat.refl _)
                              refine wpFacts_norm (by simp only [Act.put, List.setIfInBounds_toArray, List.set_cons_zero, List.set_cons_succ]; rfl) (by simp only [List.cons_append, List.nil_append]; rfl) ?_
                              refine wpFacts_val (by rfl) (fun w1 hL hd K hK => ?_) ?_
                              · have c2 := cell_later (HS.out w1 hL) g1
                                go_simp
                                exact hK _ (Lat.refl _)
                              refine wpFacts_norm (by simp only [Act.put, List.setIfInBounds_toArray, List.set_cons_zero, List.set_cons_succ]; rfl) (by simp only [List.cons_append, List.nil_append]; rfl) ?_
                              refine wpFacts_val (by rfl) (fun w1 hL hd K hK => ?_) ?_
                              · go_simp
                                exact hK _ (Lat.refl _)
                              refine wpFacts_norm (by simp only [Act.put, List.setIfInBounds_toArray, List.set_cons_zero, List.set_cons_succ]; rfl) (by simp only [List.cons_append, List.nil_append]; rfl) ?_
                              refine wpFacts_val (by rfl) (fun w1 hL hd K hK => ?_) ?_
                              · have c2 := cell_later (HS.out w1 hL) y1
                                go_simp
                                exact hK _ (Lat.refl _)
                              refine wpFacts_norm (by simp only [Act.put, List.setIfInBounds_toArray, List.set_cons_zero, List.set_cons_succ]; rfl) (by simp only [List.cons_append, List.nil_append]; rfl) ?_
                              refine wpFacts_val (by rfl) (fun w1 hL hd K hK => ?_) ?_
                              · go_simp
                                go_at_call 31
                                refine (HAQ.out w1 (HS.out w1 hL)).mono ?_
                                rintro e w2 ⟨rfl, rfl⟩
                                exact hK _ (Lat.refl _)
                              refine wpFacts_norm (by simp only [Act.put, List.setIfInBounds_toArray, List.set_cons_zero, List.set_cons_succ]; rfl) (by simp only [List.cons_append, List.nil_append]; rfl) ?_
                              refine wpFacts_val (by rfl) (fun w1 hL hd K hK => ?_) ?_
                              · go_simp
                                first | rw [hsv, hwz] | rw [hwz] | skip
                                exact hK _ (Lat.refl _)
                              refine wpFacts_norm (by simp only [Act.put, List.setIfInBounds_toArray, List.set_cons_zero, List.set_cons_succ]; rfl) (by simp only [List.cons_append, List.nil_append]; rfl) ?_
                              refine wpFacts_fact (by rfl) (fun w1 hL hd K hK => ?_) (fun vF => ?_)
                              · go_simp
                                exact hK (.slice (some ⟨w1.heap.size, 0, none⟩) 1 1) _ (Below.alloc (Below.refl _ _) (Nat.le_refl _) _) ⟨w1.heap.size, rfl, Nat.le_trans HW0.out (HS.out w1 hL).size, heap_alloc_new w1 _⟩
                              refine wpFacts_norm (by simp only [Act.put, List.setIfInBounds_toArray, List.set_cons_zero, List.set_cons_succ]; rfl) (by simp only [List.cons_append, List.nil_append]; rfl) ?_
                              intro w1' hL ha
                              obtain ⟨d, rfl, hd1, hd2⟩ : ∃ d, vF = .slice (some ⟨d, 0, none⟩) 1 1 ∧ wr.heap.size ≤ d ∧ w1'.heap[d]? = some (.cells #[.int .i64 sv] 3 (0, 0)) := allHold_get 11 ha rfl rfl
                              clear ha
                              have hx2 : Hid (RX V w1' X lz (.slice zo k zc) done) := hx1.out.later (HS.out w1' hL)
                              have hown2 : w1'.ownsRow (X + 1) 3 1 (.slice zo k zc) k (done.map (.int .i64)) := by have := hx2.out.own; unfold OwnInts at this; rw [HQ.out] at this; exact this
                              have hxl2 := hx2.out.lt
                              refine wpList_append_int rfl (.tmp 183) (.tmp 193) rfl (X + 1) (.slice zo k zc) k (done.map (.int .i64)) rfl hown2 ⟨d, 0, none⟩ 1 (.int .i64 sv) rfl (World.news_of_block (cs := #[.int .i64 sv]) (t := 3) (fr := (0, 0)) hd2) rfl (by omega) (by omega) ?_
                              intro ga cap w2 ho2 hg2
                              have hx3 : Hid (RX V (w2.setCell ⟨X, 1, none⟩ (.slice (some ⟨ga, 0, none⟩) (k + 1) cap)) X lz (.slice (some ⟨ga, 0, none⟩) (k + 1) cap) (done ++ [sv])) := hx2.out.push hg2 (by unfold OwnInts; rw [List.length_append, HQ.out, List.map_append]; exact ho2)
                              obtain ⟨d0, d1, dz0, dz1⟩ := cells_two_z (hx2.out.grown hg2)
                              clear hd1 hd2 ho2 hg2 hown2 hL HS HAQ x0 x1 xz0 xz1 g0 g1 g2 gz0 gz1 gz2 y0 y1 y2 t0 t1 t2
                              go_wp2_with fail
                              go_roundw
                              case rel => exact ⟨k + 1, some ⟨ga, 0, none⟩, cap, by omega, by go_num, by rw [HKK.out]; exact hx3⟩
                              case measure => simp [intOf]; omega
                          · go_upto_region 36 with fail
                            have HS : Hid (∀ w1, Lat (wr.alloc (Obj.cells #[.int .i64 2, .string tx, .int .i64 tp] 69)).drew w1 → Below (wr.alloc (Obj.cells #[.int .i64 2, .string tx, .int .i64 tp] 69)).heap.size (wr.alloc (Obj.cells #[.int .i64 2, .string tx, .int .i64 tp] 69)) w1) := fun w1 hL => hL.of_drew
                            have HW0 : Hid (wr.heap.size ≤ (wr.alloc (Obj.cells #[.int .i64 2, .string tx, .int .i64 tp] 69)).heap.size) := by show _ ≤ _; simp
                            obtain ⟨y0, y1, y2, _⟩ := cells_three_z hyb.out
                            clear x0 x1 xz0 xz1 g0 g1 g2 gz0 gz1 gz2
                            obtain ⟨x0, x1, xz0, xz1⟩ := cells_two_z hx1.out.xb
                            obtain ⟨g0, g1, g2, gz0, gz1, gz2⟩ := cells_three_z hG1.out.gb
                            generalize (wr.alloc (Obj.cells #[.int .i64 2, .string tx, .int .i64 tp] 69)) = V1 at *
                            have HSY : Hid (Gr.sym tq ns ⟨2, tx, tp⟩ = Gr.pos tx tq) := by show _ = _; simp [Gr.sym]
                            have HAQ : Hid (∀ W', Below V1.heap.size V1 W' → Calls Try.prog 31 #[.slice vo tq.length vc, .string tx] W' fun e w' => e = .returned (.int .i64 (Gr.pos tx tq)) ∧ w' = W') := fun W' hW' => HVA.out W' (hx1.out.below.trans (hW'.mono hx1.out.below.size)) tq vo vc tx (.inl ⟨rfl, rfl, rfl⟩)
                            rw [HSY.out] at HKK
                            generalize Gr.pos tx tq = sv at *
                            clear HSY
                            refine wp_region_lat [.val (.pointer (some ⟨X, 1, none⟩)), .val (.slice zo k zc), .val (.pointer (some ⟨W.heap.size, 0, none⟩)), .val (.slice vo tq.length vc), .val (.pointer (some ⟨wr.heap.size, 1, none⟩)), .val (.string tx), .val (.int .i64 sv), .fact (fun v w' => ∃ d, v = .slice (some ⟨d, 0, none⟩) 1 1 ∧ wr.heap.size ≤ d ∧ w'.heap[d]? = some (.cells #[.int .i64 sv] 3 (0, 0)))] [_, _, _] (by kernel_rfl) (by kernel_rfl) rfl ?kept ?walk
                            case kept => exact ⟨fun v w1 w2 hL ⟨d, e, h1, h2⟩ => ⟨d, e, h1, by rw [hL.block _ (Array.getElem?_eq_some_iff.1 h2).1]; exact h2⟩, trivial⟩
                            case walk =>
                              refine wpFacts_val (by rfl) (fun w1 hL hd K hK => ?_) ?_
                              · go_simp
                                exact hK _ (Lat.refl _)
                              refine wpFacts_norm (by simp only [Act.put, List.setIfInBounds_toArray, List.set_cons_zero, List.set_cons_succ]; rfl) (by simp only [List.nil_append]; rfl) ?_
                              refine wpFacts_val (by rfl) (fun w1 hL hd K hK => ?_) ?_
                              · have c2 := cell_later (HS.out w1 hL) x1
                                go_simp
                                exact hK _ (Lat.refl _)
                              refine wpFacts_norm (by simp only [Act.put, List.setIfInBounds_toArray, List.set_cons_zero, List.set_cons_succ]; rfl) (by simp only [List.cons_append, List.nil_append]; rfl) ?_
                              refine wpFacts_val (by rfl) (fun w1 hL hd K hK => ?_) ?_
                              · go_simp
                                exact hK _ (Lat.refl _)
                              refine wpFacts_norm (by simp only [Act.put, List.setIfInBounds_toArray, List.set_cons_zero, List.set_cons_succ]; rfl) (by simp only [List.cons_append, List.nil_append]; rfl) ?_
                              refine wpFacts_val (by rfl) (fun w1 hL hd K hK => ?_) ?_
                              · have c2 := cell_later (HS.out w1 hL) g0
                                go_simp
                                exact hK _ (Lat.refl _)
                              refine wpFacts_norm (by simp only [Act.put, List.setIfInBounds_toArray, List.set_cons_zero, List.set_cons_succ]; rfl) (by simp only [List.cons_append, List.nil_append]; rfl) ?_
                              refine wpFacts_val (by rfl) (fun w1 hL hd K hK => ?_) ?_
                              · go_simp
                                exact hK _ (Lat.refl _)
                              refine wpFacts_norm (by simp only [Act.put, List.setIfInBounds_toArray, List.set_cons_zero, List.set_cons_succ]; rfl) (by simp only [List.cons_append, List.nil_append]; rfl) ?_
                              refine wpFacts_val (by rfl) (fun w1 hL hd K hK => ?_) ?_
                              · have c2 := cell_later (HS.out w1 hL) y1
                                go_simp
                                exact hK _ (Lat.refl _)
                              refine wpFacts_norm (by simp only [Act.put, List.setIfInBounds_toArray, List.set_cons_zero, List.set_cons_succ]; rfl) (by simp only [List.cons_append, List.nil_append]; rfl) ?_
                              refine wpFacts_val (by rfl) (fun w1 hL hd K hK => ?_) ?_
                              · go_simp
                                go_at_call 31
                                refine (HAQ.out w1 (HS.out w1 hL)).mono ?_
                                rintro e w2 ⟨rfl, rfl⟩
                                exact hK _ (Lat.refl _)
                              refine wpFacts_norm (by simp only [Act.put, List.setIfInBounds_toArray, List.set_cons_zero, List.set_cons_succ]; rfl) (by simp only [List.cons_append, List.nil_append]; rfl) ?_
                              refine wpFacts_fact (by rfl) (fun w1 hL hd K hK => ?_) (fun vF => ?_)
                              · go_simp
                                exact hK (.slice (some ⟨w1.heap.size, 0, none⟩) 1 1) _ (Below.alloc (Below.refl _ _) (Nat.le_refl _) _) ⟨w1.heap.size, rfl, Nat.le_trans HW0.out (HS.out w1 hL).size, heap_alloc_new w1 _⟩
                              refine wpFacts_norm (by simp only [Act.put, List.setIfInBounds_toArray, List.set_cons_zero, List.set_cons_succ]; rfl) (by simp only [List.cons_append, List.nil_append]; rfl) ?_
                              intro w1' hL ha
                              obtain ⟨d, rfl, hd1, hd2⟩ : ∃ d, vF = .slice (some ⟨d, 0, none⟩) 1 1 ∧ wr.heap.size ≤ d ∧ w1'.heap[d]? = some (.cells #[.int .i64 sv] 3 (0, 0)) := allHold_get 7 ha rfl rfl
                              clear ha
                              have hx2 : Hid (RX V w1' X lz (.slice zo k zc) done) := hx1.out.later (HS.out w1' hL)
                              have hown2 : w1'.ownsRow (X + 1) 3 1 (.slice zo k zc) k (done.map (.int .i64)) := by have := hx2.out.own; unfold OwnInts at this; rw [HQ.out] at this; exact this
                              have hxl2 := hx2.out.lt
                              refine wpList_append_int rfl (.tmp 197) (.tmp 203) rfl (X + 1) (.slice zo k zc) k (done.map (.int .i64)) rfl hown2 ⟨d, 0, none⟩ 1 (.int .i64 sv) rfl (World.news_of_block (cs := #[.int .i64 sv]) (t := 3) (fr := (0, 0)) hd2) rfl (by omega) (by omega) ?_
                              intro ga cap w2 ho2 hg2
                              have hx3 : Hid (RX V (w2.setCell ⟨X, 1, none⟩ (.slice (some ⟨ga, 0, none⟩) (k + 1) cap)) X lz (.slice (some ⟨ga, 0, none⟩) (k + 1) cap) (done ++ [sv])) := hx2.out.push hg2 (by unfold OwnInts; rw [List.length_append, HQ.out, List.map_append]; exact ho2)
                              obtain ⟨d0, d1, dz0, dz1⟩ := cells_two_z (hx2.out.grown hg2)
                              clear hd1 hd2 ho2 hg2 hown2 hL HS HAQ x0 x1 xz0 xz1 g0 g1 g2 gz0 gz1 gz2 y0 y1 y2 t0 t1 t2
                              go_wp2_with fail
                              go_roundw
                              case rel => exact ⟨k + 1, some ⟨ga, 0, none⟩, cap, by omega, by go_num, by rw [HKK.out]; exact hx3⟩
                              case measure => simp [intOf]; omega
                        · have HKE : Hid ((yr.take k).map (Gr.sym tq ns) = yr.map (Gr.sym tq ns)) := by show _ = _; rw [List.take_of_length_le (by omega)]
                          have hke : k = (yr.map (Gr.sym tq ns)).length := by rw [List.length_map]; omega
                          rw [HKE.out] at hxi
                          have hz8 : (yr.map (Gr.sym tq ns)).length ≤ 8 := by rw [List.length_map]; exact hyl
                          clear HKE
                          generalize yr.map (Gr.sym tq ns) = zr at *
                          have HHAS : Hid (∀ b, Gr.has (lz, zr) rs = b → Calls Try.prog 32 #[.slice ra rs.length rc, .agg #[.int .i64 lz, .slice zo zr.length zc]] wr fun e w' => e = .returned (.bool b) ∧ Below wr.heap.size wr w') := fun b hb => by
                            obtain ⟨_, _, hv, hr, _⟩ := hG.out.or.read
                            cases hv
                            have ho := hxi.out.own
                            rw [hke] at ho
                            obtain ⟨_, _, hv, hi, _⟩ := OwnInts.read ho
                            cases hv
                            exact refHas_is b rs (by omega) ra rc lz zr zo zc wr hr hi (by omega) (fun y hy => by have := HR8.out y hy; unfold maxLen; omega) hb
                          have hxo : Hid (RX V wr X lz (.slice zo zr.length zc) zr) := by rw [← hke]; exact hxi
                          rw [hke] at x1
                          go_wp2_with fail
                          cases hin : Gr.has (lz, zr) rs
                          · have HP : Hid (Gr.put rs (lz, zr) = rs ++ [(lz, zr)]) := Gr.put_new (Gr.has_no hin)
                            rw [HP.out] at R
                            refine (HHAS.out false hin).mono ?_
                            rintro e w8 ⟨rfl, hb8⟩
                            have HG8 : Hid (RG3 W w8 C (.slice vo tq.length vc) (.slice no ns.length nc) (.slice ra rs.length rc) tq ns rs) := hG.out.later hb8
                            have HX8 : Hid (RX V w8 X lz (.slice zo zr.length zc) zr) := hxo.out.later hb8
                            clear g0 g1 g2 gz0 gz1 gz2 x0 x1 xz0 xz1 HHAS hb8 hin HP
                            obtain ⟨g0, g1, g2, gz0, gz1, gz2⟩ := cells_three_z HG8.out.gb
                            obtain ⟨x0, x1, xz0, xz1⟩ := cells_two_z HX8.out.xb
                            have hlr8 := HG8.out.lt
                            have hlx8 := HX8.out.lt
                            have hb9 : Hid (Below w8.heap.size w8 (w8.alloc (Obj.cells #[.int .i64 lz, .slice zo zr.length zc] 54))) := (Below.refl _ w8).alloc (Nat.le_refl _) _
                            have HG9 : Hid (RG3 W (w8.alloc (Obj.cells #[.int .i64 lz, .slice zo zr.length zc] 54)) C (.slice vo tq.length vc) (.slice no ns.length nc) (.slice ra rs.length rc) tq ns rs) := HG8.out.later hb9.out
                            have HO9 : Hid (OwnInts C (w8.alloc (Obj.cells #[.int .i64 lz, .slice zo zr.length zc] 54)) (.slice zo zr.length zc) zr) := ownsRow_from (ownsRow_below HX8.out.own hb9.out) (by omega)
                            go_wp2_with (first
                              | (at_builtin; refine wpList_append_rl rfl _ _ rfl C _ rs rfl HG9.out.or w8.heap.size 1 (lz, zr) zo zc rfl (by simp [go_sem]) (by simp [go_sem]) HO9.out (by omega) (by simp; omega) ?_; intro ga cap w10 ho10 hg10; obtain ⟨d0, d1, d2, dz0, dz1, dz2⟩ := cells_three_z (HG9.out.grown hg10)))
                            have HGA : Hid (RG3 W (w10.setCell ⟨W.heap.size, 2, none⟩ (.slice (some ⟨ga, 0, none⟩) (rs.length + 1) cap)) C (.slice vo tq.length vc) (.slice no ns.length nc) (.slice (some ⟨ga, 0, none⟩) (rs.length + 1) cap) tq ns (rs ++ [(lz, zr)])) := HG9.out.push hg10 ho10
                            go_roundw
                            case rel => exact ⟨q + 1, some ⟨ga, 0, none⟩, cap, by omega, by go_num, by rw [R.out, List.length_append]; exact HGA⟩
                            case measure => simp [intOf]; omega
                          · have HP : Hid (Gr.put rs (lz, zr) = rs) := Gr.put_in (Gr.has_yes hin)
                            rw [HP.out] at R
                            refine (HHAS.out true hin).mono ?_
                            rintro e w8 ⟨rfl, hb8⟩
                            have HG8 : Hid (RG3 W w8 C (.slice vo tq.length vc) (.slice no ns.length nc) (.slice ra rs.length rc) tq ns rs) := hG.out.later hb8
                            clear g0 g1 g2 gz0 gz1 gz2 x0 x1 xz0 xz1 HHAS hb8 hin HP
                            go_wp2_with fail
                            go_roundw
                            case rel => exact ⟨q + 1, ra, rc, by omega, by go_num, by rw [R.out]; exact HG8⟩
                            case measure => simp [intOf]; omega
                  · have HK : Hid (xs.take q = xs) := by show _ = _; rw [List.take_of_length_le (by omega)]
                    rw [HK.out] at hinv hrl g2
                    obtain ⟨r0, r1, r2, r3, r4, z0, z1, z2, z3, z4⟩ := cells_five_z ((hinv.out.below.block _ (by omega)).trans HWN.out)
                    have hNw : w.heap.size < V.heap.size := by omega
                    have hNG : w.heap.size ≠ W.heap.size := by omega
                    have HBF : Hid (Below w.heap.size w V) := HBW.out.trans (hinv.out.below.mono HBW.out.size)
                    have HOW : Hid (GmOwn (W.heap.size + 1) V ⟨tq, ns, Gr.rules tq ns xs⟩ ⟨vo, vc, no, nc, ra, rc⟩) := ⟨hinv.out.ot, hinv.out.on, hinv.out.or.from hlr.1, HTM.out, HNM.out⟩
                    go_wp2_with fail
                    refine bodyPost_ret (v := .agg #[.slice vo tq.length vc, .slice no ns.length nc, .slice ra (Gr.rules tq ns xs).length rc, .int .i64 0, .int .i64 0]) (by simp [results, Try.results11, go_sem, r0, r1, r2, r3, r4]) rfl (GR.out ⟨tq, ns, Gr.rules tq ns xs⟩ ⟨vo, vc, no, nc, ra, rc⟩ _ P.out ?_ ?_)
                    · exact ((((HBF.out.setCell (by exact Nat.le_refl _) _).setCell (by exact Nat.le_refl _) _).setCell (by exact Nat.le_refl _) _).setCell (by exact Nat.le_refl _) _).setCell (by exact Nat.le_refl _) _
                    · have hz : w.heap.size < W.heap.size + 1 := by omega
                      exact (((((HOW.out.setCell (a := ⟨w.heap.size, 0, none⟩) hz _).setCell (a := ⟨w.heap.size, 1, none⟩) hz _).setCell (a := ⟨w.heap.size, 2, none⟩) hz _).setCell (a := ⟨w.heap.size, 3, none⟩) hz _).setCell (a := ⟨w.heap.size, 4, none⟩) hz _).from (by omega)
    · have HE : Hid (ofS s.data.toList = (en, ea, ⟨[], [], []⟩)) := by
        show _ = _; unfold ofS Gr.ofG; rw [hE, HLn.out]
        simp only at h2 h3
        have : en ≠ 0 := by omega
        simp [h2, this]
      have HA : Hid (Rd.altsG (us.map tkOf) s.size = (en, ea, [])) := h2
      have hen : (en != 0) = true := by simp only at h3; simp; omega
      clear h1 h2 h3 hE hl ht HX2
      generalize us.map tkOf = ts at *
      go_enter Try.func11, Try.ntmps11
      go_wp2_with fail
      refine (HTK.out _).mono ?_
      rintro e w1 ⟨ao, c, rfl, hb1, ht1, hc1⟩
      have hz1 : w.heap.size < w1.heap.size := by have := hb1.out.size; simp at this; omega
      have hr1 : w1.heap[w.heap.size]? = some (.cells #[.slice none 0 0, .slice none 0 0, .slice none 0 0, .int .i64 0, .int .i64 0] 34 (0, 0)) := by
        rw [hb1.out.block _ (by simp)]; exact heap_alloc_new w _
      have hbw1 : Hid (Below w.heap.size w w1) := ((Below.refl _ w).alloc (Nat.le_refl _) _).trans (hb1.out.mono (by simp))
      have hb11 : Hid (Below w1.heap.size w1 (w1.alloc (Obj.cells #[.slice ao ts.length c, .int .i64 0, .int .i64 0] 62))) := (Below.refl _ w1).alloc (Nat.le_refl _) _
      have hl1 : Hid ((w1.alloc (Obj.cells #[.slice ao ts.length c, .int .i64 0, .int .i64 0] 62)).heap.size = w1.heap.size + 1) := by show _ = _; simp
      clear hb1
      go_wp2_with fail
      refine (refAlts_any ao c ts s.size _ hlen (ht1.out.later hb11.out).size).mono ?_
      rintro e w3 ⟨hb3, v, rfl, hown⟩
      rw [HA.out] at hown ⊢
      obtain ⟨xo, xc, hv, _⟩ := hown.read
      subst hv
      have hb3' := hb11.out.trans (hb3.mono hb11.out.size)
      have hbw3 : Hid (Below w.heap.size w w3) := hbw1.out.trans (hb3'.mono hbw1.out.size)
      have hz3 : w1.heap.size < w3.heap.size := by have := hb3.size; rw [hl1.out] at this; omega
      have hz : w.heap.size < w3.heap.size := by omega
      obtain ⟨r0, r1, r2, r3, r4, z0, z1, z2, z3, z4⟩ := cells_five_z ((hb3'.block _ hz1).trans hr1)
      clear hb3' hown hb3 hb11 hl1 hr1 hbw1
      go_wp2_with fail
      refine bodyPost_ret (v := .agg #[.slice none 0 0, .slice none 0 0, .slice none 0 0, .int .i64 en, .int .i64 ea]) (by simp [results, Try.results11, go_sem, r0, r1, r2, r3, r4, hz]) rfl (GE.out en ea HE.out _ ?_)
      exact (((((hbw3.out.setCell (by exact Nat.le_refl _) _).setCell (by exact Nat.le_refl _) _).setCell (by exact Nat.le_refl _) _).setCell (by exact Nat.le_refl _) _).setCell (by exact Nat.le_refl _) _).alloc (by simp; omega) _
  · have HG : Hid (tokensG s.data.toList = (n, a, [])) := hG
    have HE : Hid (ofS s.data.toList = (n, a, ⟨[], [], []⟩)) := by
      show _ = _; unfold ofS Gr.ofG; rw [hE]; rcases hn with rfl | rfl <;> rfl
    have hne : (n != 0) = true := by rcases hn with rfl | rfl <;> rfl
    clear hE hG hn
    go_enter Try.func11, Try.ntmps11
    go_wp2_with fail
    refine (refTokens_tks s n a [] [] _ hs HG rfl).mono ?_
    rintro e w1 ⟨ao, c, rfl, hb, _, _⟩
    have hz : w.heap.size < w1.heap.size := by have := hb.out.size; simp at this; omega
    have hr : w1.heap[w.heap.size]? = some (.cells #[.slice none 0 0, .slice none 0 0, .slice none 0 0, .int .i64 0, .int .i64 0] 34 (0, 0)) := by
      rw [hb.out.block _ (by simp)]; exact heap_alloc_new w _
    obtain ⟨r0, r1, r2, r3, r4, z0, z1, z2, z3, z4⟩ := cells_five_z hr
    have hbw : Hid (Below w.heap.size w w1) := ((Below.refl _ w).alloc (Nat.le_refl _) _).trans (hb.out.mono (by simp))
    have hN0 : w.heap.size ≠ w1.heap.size := by omega
    have hN1 : ¬ w1.heap.size = w.heap.size := by omega
    clear hb hr
    go_wp2_with fail
    refine bodyPost_ret (v := .agg #[.slice none 0 0, .slice none 0 0, .slice none 0 0, .int .i64 n, .int .i64 a]) (by simp [results, Try.results11, go_sem, r0, r1, r2, r3, r4, hz]) rfl (GE.out n a HE.out _ ?_)
    exact (((((hbw.out.setCell (by exact Nat.le_refl _) _).setCell (by exact Nat.le_refl _) _).setCell (by exact Nat.le_refl _) _).setCell (by exact Nat.le_refl _) _).setCell (by exact Nat.le_refl _) _).alloc (by simp; omega) _
end Go.Proofs.Ytnphfhoknnnciaa
