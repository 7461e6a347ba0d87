/-
  The law GrammarAgain, walked: it returns true, of every text.
-/
import Derived.Test.YtnbniaijholimaaGrWakes
import Derived.Test.YtnbniaijholimaaGrMath5
import Derived.Test.YtnbniaijholimaaLexRunMath
import Derived.Deep.DeepCutAuto
namespace Go.Proofs.Ytnbniaijholimaa
open Go.RowKit

theorem twice_lists (s : ByteArray) : (s ++ ⟨#[10]⟩ ++ s : ByteArray).data.toList = s.data.toList ++ 10 :: s.data.toList := by simp
theorem twice_size (s : ByteArray) : (s ++ ⟨#[10]⟩ ++ s : ByteArray).size = s.size + 1 + s.size := by
  simp only [ByteArray.size_append]; rfl

/-- a token further on -/
def mv (d : Nat) (t : Rd.Tk) : Rd.Tk := ⟨t.kind, t.text, t.pos + d⟩

theorem of_no (az : List Rd.Al) (e : Rd.Er) (h : Gr.of az = .error e) : e.1 ≠ 0 := by
  unfold Gr.of at h
  split at h
  · cases h; simp
  · split at h
    · cases h; simp
    · cases h

theorem ofS_err {l : List UInt8} {n a : Int} (h : tokensG l = (n, a, [])) (hn : n ≠ 0) : ofS l = (n, a, ⟨[], [], []⟩) := by
  unfold ofS Gr.ofG toksOf; rw [h]; simp [hn]

theorem again_math (l : List UInt8) (hl : l.length ≤ 900) :
    (∃ n a n' a' : Int, n ≠ 0 ∧ n' ≠ 0 ∧ ofS l = (n, a, ⟨[], [], []⟩) ∧ ofS (l ++ 10 :: l) = (n', a', ⟨[], [], []⟩)) ∨
    (∃ g us az, ofS l = (0, 0, g) ∧ tokensG l = (0, 0, us) ∧ us.length ≤ 900 ∧ az = Rd.cnt 4 (us.map tkOf) + Rd.cnt 5 (us.map tkOf) ∧ az ≤ 60 ∧ (g.terms.length ≤ 4000 ∧ g.names.length ≤ 4000 ∧ g.rules.length ≤ 4000) ∧ (∀ r ∈ g.rules, r.2.length ≤ 4000) ∧
      ((60 < 2 * az ∧ ∃ a', ofS (l ++ 10 :: l) = (14, a', ⟨[], [], []⟩)) ∨ (2 * az ≤ 60 ∧ ofS (l ++ 10 :: l) = (0, 0, g)))) := by
  have hlen : (l ++ 10 :: l).length ≤ 2000 := by rw [List.length_append, List.length_cons]; omega
  have hn := Lx.tokens_newline l l
  cases ht : Lx.tokens l with
  | error q =>
    rw [ht] at hn
    simp only at hn
    left
    refine ⟨11, q, 11, q, by decide, by decide, ?_, ?_⟩
    · exact ofS_err (by unfold tokensG; rw [if_neg (by omega), ht]) (by decide)
    · exact ofS_err (by unfold tokensG; rw [if_neg (by omega), hn]) (by decide)
  | ok us =>
    rw [ht] at hn
    have hG : tokensG l = (0, 0, us) := by unfold tokensG; rw [if_neg (by omega), ht]
    have hc := Lx.tokens_count ht
    have hn' : Lx.tokens (l ++ 10 :: l) = .ok (us ++ us.map (Lx.shiftT (l.length + 1))) := by rw [hn]; rfl
    have hT : toksOf l = (0, 0, us.map tkOf) := by unfold toksOf; rw [hG]
    have hU : toksOf (l ++ 10 :: l) = (0, 0, us.map tkOf ++ (us.map tkOf).map (mv (l.length + 1))) := by
      have hG2 : tokensG (l ++ 10 :: l) = (0, 0, us ++ us.map (Lx.shiftT (l.length + 1))) := by unfold tokensG; rw [if_neg (by omega), hn']
      unfold toksOf; rw [hG2]
      simp only [List.map_append, List.map_map]
      congr 3
    have hk : ∀ t, (mv (l.length + 1) t).kind = t.kind := fun _ => rfl
    have hx : ∀ t, (mv (l.length + 1) t).text = t.text := fun _ => rfl
    rcases Rd.altsG_cases (us.map tkOf) l.length with ⟨xs, h1, h2, h3, h4⟩ | ⟨⟨en, ea⟩, h1, h2, h3⟩
    · have hof : ofS l = outG (Gr.of xs) := by
        unfold ofS Gr.ofG; rw [hT]; simp only [h2]; cases Gr.of xs <;> rfl
      have hsm := Rd.altsG_small h2
      have hcnt := (Rd.alts_counts h3 h4).1
      rcases Rd.alts_twice_ok (mv (l.length + 1)) hk (en' := (l ++ 10 :: l).length) h3 h4 with ⟨k1, k2⟩ | ⟨k1, p, k2⟩
      · have hof2 : ofS (l ++ 10 :: l) = outG (Gr.of xs) := by
          unfold ofS Gr.ofG; rw [hU]; simp only [k2]; rw [Gr.of_twice _ hk hx]; cases Gr.of xs <;> rfl
        cases ho : Gr.of xs with
        | error e =>
          rw [ho] at hof hof2
          exact .inl ⟨e.1, e.2, e.1, e.2, of_no xs e ho, of_no xs e ho, hof, hof2⟩
        | ok g =>
          rw [ho] at hof hof2
          have hg : g = ⟨Gr.terms xs, Gr.names xs, Gr.rules (Gr.terms xs) (Gr.names xs) xs⟩ := by
            unfold Gr.of at ho
            split at ho
            · cases ho
            · split at ho
              · cases ho
              · cases ho; rfl
          have l1 := Gr.terms_len xs hsm.2 xs.length
          have l2 := Gr.names_len xs xs.length
          have l3 := Gr.rules_len (Gr.terms xs) (Gr.names xs) xs xs.length
          have l4 := Gr.rules_right (Gr.terms xs) (Gr.names xs) xs hsm.2 xs.length
          rw [List.take_length] at l1 l2 l3 l4
          have := hsm.1
          refine .inr ⟨g, us, xs.length, hof, hG, by omega, hcnt, hsm.1, ?_, ?_, .inr ⟨k1, hof2⟩⟩
          · subst hg; exact ⟨by show (Gr.terms xs).length ≤ 4000; omega, by show (Gr.names xs).length ≤ 4000; omega, by show (Gr.rules _ _ xs).length ≤ 4000; omega⟩
          · subst hg; intro r hr; have := l4 r hr; omega
      · have hof2 : ofS (l ++ 10 :: l) = (14, p, ⟨[], [], []⟩) := by
          unfold ofS Gr.ofG; rw [hU]; simp only [k2]; rfl
        cases ho : Gr.of xs with
        | error e =>
          rw [ho] at hof
          exact .inl ⟨e.1, e.2, 14, p, of_no xs e ho, by decide, hof, hof2⟩
        | ok g =>
          rw [ho] at hof
          have hg : g = ⟨Gr.terms xs, Gr.names xs, Gr.rules (Gr.terms xs) (Gr.names xs) xs⟩ := by
            unfold Gr.of at ho
            split at ho
            · cases ho
            · split at ho
              · cases ho
              · cases ho; rfl
          have l1 := Gr.terms_len xs hsm.2 xs.length
          have l2 := Gr.names_len xs xs.length
          have l3 := Gr.rules_len (Gr.terms xs) (Gr.names xs) xs xs.length
          have l4 := Gr.rules_right (Gr.terms xs) (Gr.names xs) xs hsm.2 xs.length
          rw [List.take_length] at l1 l2 l3 l4
          have := hsm.1
          refine .inr ⟨g, us, xs.length, hof, hG, by omega, hcnt, hsm.1, ?_, ?_, .inl ⟨k1, p, hof2⟩⟩
          · subst hg; exact ⟨by show (Gr.terms xs).length ≤ 4000; omega, by show (Gr.names xs).length ≤ 4000; omega, by show (Gr.rules _ _ xs).length ≤ 4000; omega⟩
          · subst hg; intro r hr; have := l4 r hr; omega
    · obtain ⟨⟨en', ea'⟩, h5⟩ := Rd.alts_twice_err (mv (l.length + 1)) hk (en' := (l ++ 10 :: l).length) h1
      rcases Rd.altsG_cases (us.map tkOf ++ (us.map tkOf).map (mv (l.length + 1))) (l ++ 10 :: l).length with ⟨xs, k1, _⟩ | ⟨⟨fn, fa⟩, k1, k2, k3⟩
      · rw [h5] at k1; cases k1
      · simp only at h2 h3 k2 k3
        have z1 : en ≠ 0 := by omega
        have z2 : fn ≠ 0 := by omega
        refine .inl ⟨en, ea, fn, fa, z1, z2, ?_, ?_⟩
        · unfold ofS Gr.ofG; rw [hT]; simp [h2, z1]
        · unfold ofS Gr.ofG; rw [hU]; simp only [k2]; simp [z2]

set_option maxRecDepth 100000 in
set_option maxHeartbeats 6400000 in
theorem grammarAgain_walk (s : ByteArray) (w : World) (hs : s.size ≤ maxLen) :
    Calls Try.prog 6 #[.string s] w fun e w' => e = .returned (.bool true) ∧ Below w.heap.size w w' := by
  have hs' : s.size ≤ 9223372036854775807 := hs
  by_cases h9 : 900 < s.size
  · go_enter Try.func6, Try.ntmps6
    go_wp2_with (go_at_call 13; refine (gwakes_any _).mono ?_; rintro e w1 ⟨rfl, hb⟩)
    go_ret
    exact ⟨rfl, hb⟩
  · have HL : Hid (s.data.toList.length = s.size) := by show _ = _; simp
    have h9d : decide (900 < (s.size : Int)) = false := by simp; omega
    have hc2 : (s ++ ⟨#[10]⟩ ++ s : ByteArray).size ≤ maxLen := by rw [twice_size]; unfold maxLen; omega
    have hm := again_math s.data.toList (by rw [HL.out]; omega)
    rw [← twice_lists] at hm
    rcases hm with ⟨n, a, n', a', hn, hn', h1, h2⟩ | ⟨g, us, az, h1, h2, h3, h4, h5, h6, h7, h8⟩
    · have G1 : Hid (ofS s.data.toList = (n, a, ⟨[], [], []⟩)) := h1
      have G2 : Hid (ofS (s ++ ⟨#[10]⟩ ++ s : ByteArray).data.toList = (n', a', ⟨[], [], []⟩)) := h2
      have k1 : (n != 0) = true := by simp [hn]
      have k2 : (n' != 0) = true := by simp [hn']
      clear h1 h2 hn hn'
      go_enter Try.func6, Try.ntmps6
      go_wp2_with fail
      refine (of_is s n a _ _ hs G1).mono ?_
      rintro e w1 ⟨⟨ta, tc, na, nc, ra, rc⟩, rfl, hb1, ho1⟩
      simp only [gmCells]
      go_wp2_with fail
      refine (of_is _ n' a' _ _ hc2 G2).mono ?_
      rintro e w2 ⟨⟨ta2, tc2, na2, nc2, ra2, rc2⟩, rfl, hb2, ho2⟩
      simp only [gmCells]
      have z2 : w1.heap.size + 1 < w2.heap.size := by have := hb2.out.size; simp at this; omega
      have f0 : w2.cell? ⟨w1.heap.size + 1, 0, none⟩ = some (.int .i64 n) := (hb2.out.cell (by simp)).trans (by simp [go_sem])
      have hbA : Hid (Below w.heap.size w w2) := ((hb1.out.alloc hb1.out.size _).alloc (by have := hb1.out.size; simp; omega) _).trans (hb2.out.mono (by have := hb1.out.size; simp; omega))
      have hbB : Hid (Below w2.heap.size w2 ((w2.alloc (Obj.cells #[.slice ta2 0 tc2, .slice na2 0 nc2, .slice ra2 0 rc2] 38)).alloc (Obj.cells #[.int .i64 n', .int .i64 a'] 30))) := ((Below.refl _ w2).alloc (Nat.le_refl _) _).alloc (by simp) _
      have e0 : ((w2.alloc (Obj.cells #[.slice ta2 0 tc2, .slice na2 0 nc2, .slice ra2 0 rc2] 38)).alloc (Obj.cells #[.int .i64 n', .int .i64 a'] 30)).cell? ⟨w2.heap.size + 1, 0, none⟩ = some (.int .i64 n') := by simp [go_sem]
      have d2 : ((w2.alloc (Obj.cells #[.slice ta2 0 tc2, .slice na2 0 nc2, .slice ra2 0 rc2] 38)).alloc (Obj.cells #[.int .i64 n', .int .i64 a'] 30)).cell? ⟨w2.heap.size, 2, none⟩ = some (.slice ra2 0 rc2) := by simp [go_sem]
      replace f0 := cell_later hbB.out f0
      have hbZ : Hid (Below w.heap.size w ((w2.alloc (Obj.cells #[.slice ta2 0 tc2, .slice na2 0 nc2, .slice ra2 0 rc2] 38)).alloc (Obj.cells #[.int .i64 n', .int .i64 a'] 30))) := hbA.out.trans (hbB.out.mono hbA.out.size)
      clear hb2 ho1 ho2 hbB hbA
      go_upto_region 5 with fail
      generalize ((w2.alloc (Obj.cells #[.slice ta2 0 tc2, .slice na2 0 nc2, .slice ra2 0 rc2] 38)).alloc (Obj.cells #[.int .i64 n', .int .i64 a'] 30)) = W2 at *
      go_wp2_with (first | (go_at_call 13; refine (gwakes_any _).mono ?_; rintro e w3 ⟨rfl, hb3⟩))
      go_ret
      exact ⟨rfl, hbZ.out.trans (hb3.mono hbZ.out.size)⟩
    · have G1 : Hid (ofS s.data.toList = (0, 0, g)) := h1
      have GT : Hid (tokensG s.data.toList = (0, 0, us)) := h2
      have HM : Hid (az = Rd.cnt 4 (us.map tkOf) + Rd.cnt 5 (us.map tkOf)) := h4
      have H6 : Hid _ := h6
      have H7 : Hid _ := h7
      have HTL : Hid ((us.map tkOf).length = us.length) := by show _ = _; rw [List.length_map]
      have hTl : (us.map tkOf).length ≤ 900 := by rw [HTL.out]; exact h3
      have HTK : Hid (∀ W : World, _) := fun W => rtokens_is s 0 0 us (us.map tkOf) W hs GT rfl
      clear h1 h2 h3 h4 h6 h7 HTL
      generalize us.map tkOf = T at *
      rcases h8 with ⟨k1, a', h2⟩ | ⟨k1, h2⟩
      · have G2 : Hid (ofS (s ++ ⟨#[10]⟩ ++ s : ByteArray).data.toList = (14, a', ⟨[], [], []⟩)) := h2
        clear h2
        go_enter Try.func6, Try.ntmps6
        go_wp2_with fail
        refine (of_is s 0 0 g _ hs G1).mono ?_
        rintro e w1 ⟨⟨ta, tc, na, nc, ra, rc⟩, rfl, hb1, ho1⟩
        simp only [gmCells]
        go_wp2_with fail
        refine (of_is _ 14 a' ⟨[], [], []⟩ _ hc2 G2).mono ?_
        rintro e w2 ⟨⟨ta2, tc2, na2, nc2, ra2, rc2⟩, rfl, hb2, ho2⟩
        simp only [gmCells]
        have z2 : w1.heap.size + 1 < w2.heap.size := by have := hb2.out.size; simp at this; omega
        have hbx : Hid (Below w1.heap.size w1 w2) := (((Below.refl _ w1).alloc (Nat.le_refl _) _).alloc (by simp) _).trans (hb2.out.mono (by simp; omega))
        have hbA : Hid (Below w.heap.size w w2) := hb1.out.trans (hbx.out.mono hb1.out.size)
        have f0 : w2.cell? ⟨w1.heap.size + 1, 0, none⟩ = some (.int .i64 0) := (hb2.out.cell (by simp)).trans (by simp [go_sem])
        have q0 : w2.cell? ⟨w1.heap.size, 0, none⟩ = some (.slice ta g.terms.length tc) := (hb2.out.cell (by simp; omega)).trans (by simp [go_sem])
        have q1 : w2.cell? ⟨w1.heap.size, 1, none⟩ = some (.slice na g.names.length nc) := (hb2.out.cell (by simp; omega)).trans (by simp [go_sem])
        have q2 : w2.cell? ⟨w1.heap.size, 2, none⟩ = some (.slice ra g.rules.length rc) := (hb2.out.cell (by simp; omega)).trans (by simp [go_sem])
        have GA1 : Hid (GmAt w2.heap.size w2 g ⟨ta, tc, na, nc, ra, rc⟩) := ho1.out.at.next hbx.out
        have GA2 : Hid (GmAt w2.heap.size w2 ⟨[], [], []⟩ ⟨ta2, tc2, na2, nc2, ra2, rc2⟩) := ho2.out.at
        clear hb2 ho1 ho2 hbx
        have hbB : Hid (Below w2.heap.size w2 ((w2.alloc (Obj.cells #[.slice ta2 0 tc2, .slice na2 0 nc2, .slice ra2 0 rc2] 38)).alloc (Obj.cells #[.int .i64 14, .int .i64 a'] 30))) := ((Below.refl _ w2).alloc (Nat.le_refl _) _).alloc (by simp) _
        have e0 : ((w2.alloc (Obj.cells #[.slice ta2 0 tc2, .slice na2 0 nc2, .slice ra2 0 rc2] 38)).alloc (Obj.cells #[.int .i64 14, .int .i64 a'] 30)).cell? ⟨w2.heap.size + 1, 0, none⟩ = some (.int .i64 14) := by simp [go_sem]
        have d0 : ((w2.alloc (Obj.cells #[.slice ta2 0 tc2, .slice na2 0 nc2, .slice ra2 0 rc2] 38)).alloc (Obj.cells #[.int .i64 14, .int .i64 a'] 30)).cell? ⟨w2.heap.size, 0, none⟩ = some (.slice ta2 0 tc2) := by simp [go_sem]
        have d1 : ((w2.alloc (Obj.cells #[.slice ta2 0 tc2, .slice na2 0 nc2, .slice ra2 0 rc2] 38)).alloc (Obj.cells #[.int .i64 14, .int .i64 a'] 30)).cell? ⟨w2.heap.size, 1, none⟩ = some (.slice na2 0 nc2) := by simp [go_sem]
        have d2 : ((w2.alloc (Obj.cells #[.slice ta2 0 tc2, .slice na2 0 nc2, .slice ra2 0 rc2] 38)).alloc (Obj.cells #[.int .i64 14, .int .i64 a'] 30)).cell? ⟨w2.heap.size, 2, none⟩ = some (.slice ra2 0 rc2) := by simp [go_sem]
        replace q0 := cell_later hbB.out q0
        replace q1 := cell_later hbB.out q1
        replace q2 := cell_later hbB.out q2
        replace f0 := cell_later hbB.out f0
        have hbZ : Hid (Below w.heap.size w ((w2.alloc (Obj.cells #[.slice ta2 0 tc2, .slice na2 0 nc2, .slice ra2 0 rc2] 38)).alloc (Obj.cells #[.int .i64 14, .int .i64 a'] 30))) := hbA.out.trans (hbB.out.mono hbA.out.size)
        have GZ1 : Hid (GmAt ((w2.alloc (Obj.cells #[.slice ta2 0 tc2, .slice na2 0 nc2, .slice ra2 0 rc2] 38)).alloc (Obj.cells #[.int .i64 14, .int .i64 a'] 30)).heap.size ((w2.alloc (Obj.cells #[.slice ta2 0 tc2, .slice na2 0 nc2, .slice ra2 0 rc2] 38)).alloc (Obj.cells #[.int .i64 14, .int .i64 a'] 30)) g ⟨ta, tc, na, nc, ra, rc⟩) := GA1.out.next hbB.out
        have GZ2 : Hid (GmAt ((w2.alloc (Obj.cells #[.slice ta2 0 tc2, .slice na2 0 nc2, .slice ra2 0 rc2] 38)).alloc (Obj.cells #[.int .i64 14, .int .i64 a'] 30)).heap.size ((w2.alloc (Obj.cells #[.slice ta2 0 tc2, .slice na2 0 nc2, .slice ra2 0 rc2] 38)).alloc (Obj.cells #[.int .i64 14, .int .i64 a'] 30)) ⟨[], [], []⟩ ⟨ta2, tc2, na2, nc2, ra2, rc2⟩) := GA2.out.next hbB.out
        clear hbB hbA GA1 GA2
        go_upto_region 5 with fail
        generalize ((w2.alloc (Obj.cells #[.slice ta2 0 tc2, .slice na2 0 nc2, .slice ra2 0 rc2] 38)).alloc (Obj.cells #[.int .i64 14, .int .i64 a'] 30)) = W2 at *
        go_wp2_with (go_at_call 23; fail)
        refine (HTK.out _).mono ?_
        rintro e w3 ⟨ao, c, rfl, hb3, ht3, hc3⟩
        replace e0 := cell_later hb3.out e0
        replace d0 := cell_later hb3.out d0
        replace d1 := cell_later hb3.out d1
        replace d2 := cell_later hb3.out d2
        replace q0 := cell_later hb3.out q0
        replace q1 := cell_later hb3.out q1
        replace q2 := cell_later hb3.out q2
        have hbD : Hid (Below w.heap.size w w3) := hbZ.out.trans (hb3.out.mono hbZ.out.size)
        have GB1 : Hid (GmAt w3.heap.size w3 g ⟨ta, tc, na, nc, ra, rc⟩) := GZ1.out.next hb3.out
        have GB2 : Hid (GmAt w3.heap.size w3 ⟨[], [], []⟩ ⟨ta2, tc2, na2, nc2, ra2, rc2⟩) := GZ2.out.next hb3.out
        clear hb3 GZ1 GZ2 hbZ HTK f0
        go_wp2_with fail
        have hbE : Hid (Below w3.heap.size w3 (w3.alloc (Obj.cells #[.int .i64 0, .int .i64 0] 30))) := (Below.refl _ w3).alloc (Nat.le_refl _) _
        have HTE : Hid (TksAt w3.heap.size (w3.alloc (Obj.cells #[.int .i64 0, .int .i64 0] 30)) ao T) := ht3.out.later hbE.out
        have HBF : Hid (Below w.heap.size w (w3.alloc (Obj.cells #[.int .i64 0, .int .i64 0] 30))) := hbD.out.trans (hbE.out.mono hbD.out.size)
        have GC1 : Hid (GmAt (w3.alloc (Obj.cells #[.int .i64 0, .int .i64 0] 30)).heap.size (w3.alloc (Obj.cells #[.int .i64 0, .int .i64 0] 30)) g ⟨ta, tc, na, nc, ra, rc⟩) := GB1.out.next hbE.out
        have GC2 : Hid (GmAt (w3.alloc (Obj.cells #[.int .i64 0, .int .i64 0] 30)).heap.size (w3.alloc (Obj.cells #[.int .i64 0, .int .i64 0] 30)) ⟨[], [], []⟩ ⟨ta2, tc2, na2, nc2, ra2, rc2⟩) := GB2.out.next hbE.out
        replace e0 := cell_later hbE.out e0
        replace d0 := cell_later hbE.out d0
        replace d1 := cell_later hbE.out d1
        replace d2 := cell_later hbE.out d2
        replace q0 := cell_later hbE.out q0
        replace q1 := cell_later hbE.out q1
        replace q2 := cell_later hbE.out q2
        generalize (w3.alloc (Obj.cells #[.int .i64 0, .int .i64 0] 30)) = W at *
        clear ht3 hbE hbD GB1 GB2
        go_loop [9, 10] (fun v i => ∃ k : Nat, k ≤ T.length ∧ i = .int .i64 k ∧ v = .int .i64 (Rd.cnt 4 (T.take k) + Rd.cnt 5 (T.take k) : Nat)) (fun _ i => T.length - (intOf i).toNat)
        case atStart => exact ⟨0, Nat.zero_le _, rfl, rfl⟩
        case round =>
          obtain ⟨k, hk, rfl, rfl⟩ := hrel
          by_cases hlt : k < T.length
          · obtain ⟨b, o, rfl, hb1', hb2', a0, a1, a2⟩ := HTE.out k hlt
            have T4 : Hid _ := Rd.cnt_take 4 T k hlt
            have T5 : Hid _ := Rd.cnt_take 5 T k hlt
            have l4 : Rd.cnt 4 (T.take k) ≤ k := Nat.le_trans List.countP_le_length (by rw [List.length_take]; omega)
            have l5 : Rd.cnt 5 (T.take k) ≤ k := Nat.le_trans List.countP_le_length (by rw [List.length_take]; omega)
            generalize Rd.cnt 4 (T.take k) = n4 at *
            generalize Rd.cnt 5 (T.take k) = n5 at *
            generalize T[k] = y at *
            obtain ⟨yk, yx, yp⟩ := y
            simp only at a0 a1 a2 T4 T5
            clear GC1 GC2 HTE q0 q1 q2 d0 d1 d2 e0
            by_cases e4 : yk = 4
            · subst e4
              go_wp2_with fail
              go_round
              case rel => exact ⟨k + 1, by omega, by go_num, by rw [T4.out, T5.out]; first | (congr 1; done) | (congr 1; simp; done) | (congr 1; simp; omega) | (congr 1; omega)⟩
              case measure => simp [intOf]; omega
            · by_cases e5 : yk = 5
              · subst e5
                go_wp2_with fail
                go_round
                case rel => exact ⟨k + 1, by omega, by go_num, by rw [T4.out, T5.out]; first | (congr 1; done) | (congr 1; simp; done) | (congr 1; simp; omega) | (congr 1; omega)⟩
                case measure => simp [intOf]; omega
              · have c4 : (yk == 4) = false := by simp [e4]
                have c5 : (yk == 5) = false := by simp [e5]
                rw [if_neg e4] at T4
                rw [if_neg e5] at T5
                clear e4 e5
                go_wp2_with fail
                go_round
                case rel => exact ⟨k + 1, by omega, by go_num, by rw [T4.out, T5.out]; rfl⟩
                case measure => simp [intOf]; omega
          · have HK : Hid (Rd.cnt 4 (T.take k) + Rd.cnt 5 (T.take k) = az) := by show _ = _; rw [List.take_of_length_le (by omega), HM.out]
            rw [HK.out]
            clear HK HM
            have hbg : (60 : Int) < 2 * (az : Int) := by omega
            go_wp2_with (first | (go_at_call 13; refine (gwakes_any _).mono ?_; rintro e w5 ⟨rfl, hb5⟩))
            go_ret
            exact ⟨rfl, HBF.out.trans (hb5.mono HBF.out.size)⟩
      · have G2 : Hid (ofS (s ++ ⟨#[10]⟩ ++ s : ByteArray).data.toList = (0, 0, g)) := h2
        clear h2
        go_enter Try.func6, Try.ntmps6
        go_wp2_with fail
        refine (of_is s 0 0 g _ hs G1).mono ?_
        rintro e w1 ⟨⟨ta, tc, na, nc, ra, rc⟩, rfl, hb1, ho1⟩
        simp only [gmCells]
        go_wp2_with fail
        refine (of_is _ 0 0 g _ hc2 G2).mono ?_
        rintro e w2 ⟨⟨ta2, tc2, na2, nc2, ra2, rc2⟩, rfl, hb2, ho2⟩
        simp only [gmCells]
        have z2 : w1.heap.size + 1 < w2.heap.size := by have := hb2.out.size; simp at this; omega
        have hbx : Hid (Below w1.heap.size w1 w2) := (((Below.refl _ w1).alloc (Nat.le_refl _) _).alloc (by simp) _).trans (hb2.out.mono (by simp; omega))
        have hbA : Hid (Below w.heap.size w w2) := hb1.out.trans (hbx.out.mono hb1.out.size)
        have f0 : w2.cell? ⟨w1.heap.size + 1, 0, none⟩ = some (.int .i64 0) := (hb2.out.cell (by simp)).trans (by simp [go_sem])
        have q0 : w2.cell? ⟨w1.heap.size, 0, none⟩ = some (.slice ta g.terms.length tc) := (hb2.out.cell (by simp; omega)).trans (by simp [go_sem])
        have q1 : w2.cell? ⟨w1.heap.size, 1, none⟩ = some (.slice na g.names.length nc) := (hb2.out.cell (by simp; omega)).trans (by simp [go_sem])
        have q2 : w2.cell? ⟨w1.heap.size, 2, none⟩ = some (.slice ra g.rules.length rc) := (hb2.out.cell (by simp; omega)).trans (by simp [go_sem])
        have GA1 : Hid (GmAt w2.heap.size w2 g ⟨ta, tc, na, nc, ra, rc⟩) := ho1.out.at.next hbx.out
        have GA2 : Hid (GmAt w2.heap.size w2 g ⟨ta2, tc2, na2, nc2, ra2, rc2⟩) := ho2.out.at
        clear hb2 ho1 ho2 hbx
        have hbB : Hid (Below w2.heap.size w2 ((w2.alloc (Obj.cells #[.slice ta2 g.terms.length tc2, .slice na2 g.names.length nc2, .slice ra2 g.rules.length rc2] 38)).alloc (Obj.cells #[.int .i64 0, .int .i64 0] 30))) := ((Below.refl _ w2).alloc (Nat.le_refl _) _).alloc (by simp) _
        have e0 : ((w2.alloc (Obj.cells #[.slice ta2 g.terms.length tc2, .slice na2 g.names.length nc2, .slice ra2 g.rules.length rc2] 38)).alloc (Obj.cells #[.int .i64 0, .int .i64 0] 30)).cell? ⟨w2.heap.size + 1, 0, none⟩ = some (.int .i64 0) := by simp [go_sem]
        have d0 : ((w2.alloc (Obj.cells #[.slice ta2 g.terms.length tc2, .slice na2 g.names.length nc2, .slice ra2 g.rules.length rc2] 38)).alloc (Obj.cells #[.int .i64 0, .int .i64 0] 30)).cell? ⟨w2.heap.size, 0, none⟩ = some (.slice ta2 g.terms.length tc2) := by simp [go_sem]
        have d1 : ((w2.alloc (Obj.cells #[.slice ta2 g.terms.length tc2, .slice na2 g.names.length nc2, .slice ra2 g.rules.length rc2] 38)).alloc (Obj.cells #[.int .i64 0, .int .i64 0] 30)).cell? ⟨w2.heap.size, 1, none⟩ = some (.slice na2 g.names.length nc2) := by simp [go_sem]
        have d2 : ((w2.alloc (Obj.cells #[.slice ta2 g.terms.length tc2, .slice na2 g.names.length nc2, .slice ra2 g.rules.length rc2] 38)).alloc (Obj.cells #[.int .i64 0, .int .i64 0] 30)).cell? ⟨w2.heap.size, 2, none⟩ = some (.slice ra2 g.rules.length rc2) := by simp [go_sem]
        replace q0 := cell_later hbB.out q0
        replace q1 := cell_later hbB.out q1
        replace q2 := cell_later hbB.out q2
        replace f0 := cell_later hbB.out f0
        have hbZ : Hid (Below w.heap.size w ((w2.alloc (Obj.cells #[.slice ta2 g.terms.length tc2, .slice na2 g.names.length nc2, .slice ra2 g.rules.length rc2] 38)).alloc (Obj.cells #[.int .i64 0, .int .i64 0] 30))) := hbA.out.trans (hbB.out.mono hbA.out.size)
        have GZ1 : Hid (GmAt ((w2.alloc (Obj.cells #[.slice ta2 g.terms.length tc2, .slice na2 g.names.length nc2, .slice ra2 g.rules.length rc2] 38)).alloc (Obj.cells #[.int .i64 0, .int .i64 0] 30)).heap.size ((w2.alloc (Obj.cells #[.slice ta2 g.terms.length tc2, .slice na2 g.names.length nc2, .slice ra2 g.rules.length rc2] 38)).alloc (Obj.cells #[.int .i64 0, .int .i64 0] 30)) g ⟨ta, tc, na, nc, ra, rc⟩) := GA1.out.next hbB.out
        have GZ2 : Hid (GmAt ((w2.alloc (Obj.cells #[.slice ta2 g.terms.length tc2, .slice na2 g.names.length nc2, .slice ra2 g.rules.length rc2] 38)).alloc (Obj.cells #[.int .i64 0, .int .i64 0] 30)).heap.size ((w2.alloc (Obj.cells #[.slice ta2 g.terms.length tc2, .slice na2 g.names.length nc2, .slice ra2 g.rules.length rc2] 38)).alloc (Obj.cells #[.int .i64 0, .int .i64 0] 30)) g ⟨ta2, tc2, na2, nc2, ra2, rc2⟩) := GA2.out.next hbB.out
        clear hbB hbA GA1 GA2
        go_upto_region 5 with fail
        generalize ((w2.alloc (Obj.cells #[.slice ta2 g.terms.length tc2, .slice na2 g.names.length nc2, .slice ra2 g.rules.length rc2] 38)).alloc (Obj.cells #[.int .i64 0, .int .i64 0] 30)) = W2 at *
        go_wp2_with (go_at_call 23; fail)
        refine (HTK.out _).mono ?_
        rintro e w3 ⟨ao, c, rfl, hb3, ht3, hc3⟩
        replace e0 := cell_later hb3.out e0
        replace d0 := cell_later hb3.out d0
        replace d1 := cell_later hb3.out d1
        replace d2 := cell_later hb3.out d2
        replace q0 := cell_later hb3.out q0
        replace q1 := cell_later hb3.out q1
        replace q2 := cell_later hb3.out q2
        have hbD : Hid (Below w.heap.size w w3) := hbZ.out.trans (hb3.out.mono hbZ.out.size)
        have GB1 : Hid (GmAt w3.heap.size w3 g ⟨ta, tc, na, nc, ra, rc⟩) := GZ1.out.next hb3.out
        have GB2 : Hid (GmAt w3.heap.size w3 g ⟨ta2, tc2, na2, nc2, ra2, rc2⟩) := GZ2.out.next hb3.out
        clear hb3 GZ1 GZ2 hbZ HTK f0
        go_wp2_with fail
        have hbE : Hid (Below w3.heap.size w3 (w3.alloc (Obj.cells #[.int .i64 0, .int .i64 0] 30))) := (Below.refl _ w3).alloc (Nat.le_refl _) _
        have HTE : Hid (TksAt w3.heap.size (w3.alloc (Obj.cells #[.int .i64 0, .int .i64 0] 30)) ao T) := ht3.out.later hbE.out
        have HBF : Hid (Below w.heap.size w (w3.alloc (Obj.cells #[.int .i64 0, .int .i64 0] 30))) := hbD.out.trans (hbE.out.mono hbD.out.size)
        have GC1 : Hid (GmAt (w3.alloc (Obj.cells #[.int .i64 0, .int .i64 0] 30)).heap.size (w3.alloc (Obj.cells #[.int .i64 0, .int .i64 0] 30)) g ⟨ta, tc, na, nc, ra, rc⟩) := GB1.out.next hbE.out
        have GC2 : Hid (GmAt (w3.alloc (Obj.cells #[.int .i64 0, .int .i64 0] 30)).heap.size (w3.alloc (Obj.cells #[.int .i64 0, .int .i64 0] 30)) g ⟨ta2, tc2, na2, nc2, ra2, rc2⟩) := GB2.out.next hbE.out
        replace e0 := cell_later hbE.out e0
        replace d0 := cell_later hbE.out d0
        replace d1 := cell_later hbE.out d1
        replace d2 := cell_later hbE.out d2
        replace q0 := cell_later hbE.out q0
        replace q1 := cell_later hbE.out q1
        replace q2 := cell_later hbE.out q2
        generalize (w3.alloc (Obj.cells #[.int .i64 0, .int .i64 0] 30)) = W at *
        clear ht3 hbE hbD GB1 GB2
        go_loop [9, 10] (fun v i => ∃ k : Nat, k ≤ T.length ∧ i = .int .i64 k ∧ v = .int .i64 (Rd.cnt 4 (T.take k) + Rd.cnt 5 (T.take k) : Nat)) (fun _ i => T.length - (intOf i).toNat)
        case atStart => exact ⟨0, Nat.zero_le _, rfl, rfl⟩
        case round =>
          obtain ⟨k, hk, rfl, rfl⟩ := hrel
          by_cases hlt : k < T.length
          · obtain ⟨b, o, rfl, hb1', hb2', a0, a1, a2⟩ := HTE.out k hlt
            have T4 : Hid _ := Rd.cnt_take 4 T k hlt
            have T5 : Hid _ := Rd.cnt_take 5 T k hlt
            have l4 : Rd.cnt 4 (T.take k) ≤ k := Nat.le_trans List.countP_le_length (by rw [List.length_take]; omega)
            have l5 : Rd.cnt 5 (T.take k) ≤ k := Nat.le_trans List.countP_le_length (by rw [List.length_take]; omega)
            generalize Rd.cnt 4 (T.take k) = n4 at *
            generalize Rd.cnt 5 (T.take k) = n5 at *
            generalize T[k] = y at *
            obtain ⟨yk, yx, yp⟩ := y
            simp only at a0 a1 a2 T4 T5
            clear GC1 GC2 HTE q0 q1 q2 d0 d1 d2 e0
            by_cases e4 : yk = 4
            · subst e4
              go_wp2_with fail
              go_round
              case rel => exact ⟨k + 1, by omega, by go_num, by rw [T4.out, T5.out]; first | (congr 1; done) | (congr 1; simp; done) | (congr 1; simp; omega) | (congr 1; omega)⟩
              case measure => simp [intOf]; omega
            · by_cases e5 : yk = 5
              · subst e5
                go_wp2_with fail
                go_round
                case rel => exact ⟨k + 1, by omega, by go_num, by rw [T4.out, T5.out]; first | (congr 1; done) | (congr 1; simp; done) | (congr 1; simp; omega) | (congr 1; omega)⟩
                case measure => simp [intOf]; omega
              · have c4 : (yk == 4) = false := by simp [e4]
                have c5 : (yk == 5) = false := by simp [e5]
                rw [if_neg e4] at T4
                rw [if_neg e5] at T5
                clear e4 e5
                go_wp2_with fail
                go_round
                case rel => exact ⟨k + 1, by omega, by go_num, by rw [T4.out, T5.out]; rfl⟩
                case measure => simp [intOf]; omega
          · have HK : Hid (Rd.cnt 4 (T.take k) + Rd.cnt 5 (T.take k) = az) := by show _ = _; rw [List.take_of_length_le (by omega), HM.out]
            rw [HK.out]
            clear HK HM
            have hbg : decide ((60 : Int) < 2 * (az : Int)) = false := decide_eq_false (by omega)
            have HKG : Hid (∀ _ : Unit, _) := fun _ => keepGrammar_same g ⟨ta, tc, na, nc, ra, rc⟩ ⟨ta2, tc2, na2, nc2, ra2, rc2⟩ W H6.out H7.out GC1.out GC2.out
            simp only [gmCells] at HKG
            go_wp2_with (first | (go_at_call 19; refine (HKG.out ()).mono ?_; rintro e w5 ⟨rfl, hb5⟩) | (go_at_call 13; refine (gwakes_any _).mono ?_; rintro e w6 ⟨rfl, hb6⟩))
            go_ret
            exact ⟨rfl, (HBF.out.trans (hb5.mono HBF.out.size)).trans (hb6.mono (by have := HBF.out.size; have := hb5.size; omega))⟩
end Go.Proofs.Ytnbniaijholimaa
