/-
  Layer 1 (lex): scan: all tokens of a text, or the fault of the first one that is none, thrown.
-/
import Derived.Test.YtimjopaedfefmaaLexToken
namespace Go.Proofs.Ytimjopaedfefmaa
open Go.RowKit

/-- a token's cells -/
def tokCells (t : Lx.Tok) : List Value := [.int .i64 t.kind, .string ⟨t.text.toArray⟩, .int .i64 t.pos]
def toksCells (ts : List Lx.Tok) : List Value := ts.flatMap tokCells

theorem Try.infoTok : (Try.prog.info? 37).map (fun i => (i.zero, i.size, i.bytes)) = some (some (.agg #[.int .i64 0, .string ⟨#[]⟩, .int .i64 0]), 3, 32) := by kernel_rfl

theorem ownsRow_below {w w' : World} {base : Nat} {e : TypeId} {size : Nat} {v : Value} {n : Nat} {xs : List Value} (h : w.ownsRow base e size v n xs) (hb : Below w.heap.size w w') : w'.ownsRow base e size v n xs := by
  refine ⟨h.1, ?_⟩
  rcases h.2 with hn | ⟨g, cap, cur, rfl, h1, hgg, rest⟩
  · exact .inl hn
  · refine .inr ⟨g, cap, cur, rfl, h1, ?_, rest⟩
    rw [hb.block g (Array.getElem?_eq_some_iff.1 hgg).1]
    exact hgg

theorem ownsRow_shape {w : World} {base : Nat} {e : TypeId} {size : Nat} {v : Value} {n : Nat} {xs : List Value} (h : w.ownsRow base e size v n xs) : ∃ ao k c, v = .slice ao k c := by
  rcases h.2 with ⟨rfl, _⟩ | ⟨g, cap, cur, rfl, _⟩
  · exact ⟨_, _, _, rfl⟩
  · exact ⟨_, _, _, rfl⟩

theorem ownsRow_from {w : World} {base base' : Nat} {e : TypeId} {size : Nat} {v : Value} {n : Nat} {xs : List Value} (h : w.ownsRow base e size v n xs) (hb : base' ≤ base) : w.ownsRow base' e size v n xs := by
  refine ⟨h.1, ?_⟩
  rcases h.2 with hn | ⟨g, cap, cur, hv, h1, rest⟩
  · exact .inl hn
  · exact .inr ⟨g, cap, cur, hv, by omega, rest⟩

theorem cell_three_new (w : World) (a b c : Value) (t : TypeId) : ∀ j u, [a, b, c][j]? = some u → (w.alloc (.cells #[a, b, c] t)).cell? ((⟨w.heap.size, 0, none⟩ : Addr).add j) = some u := by
  intro j u hj
  match j, hj with
  | 0, hj => simp at hj; subst hj; simp [Addr.add]
  | 1, hj => simp at hj; subst hj; simp [Addr.add]
  | 2, hj => simp at hj; subst hj; simp [Addr.add]

theorem toksCells_snoc (acc : List Lx.Tok) (t : Lx.Tok) : toksCells (acc ++ [t]) = toksCells acc ++ tokCells t := by simp [toksCells]

/-- what scan comes to -/
def ScanPost (s : ByteArray) (w : World) (e : Ending) (w' : World) : Prop :=
  Below w.heap.size w w' ∧
  ((∃ ts ao n c, Lx.tokens s.data.toList = .ok ts ∧ e = .returned (.slice ao n c) ∧ w'.ownsRow w.heap.size 37 3 (.slice ao n c) ts.length (toksCells ts)) ∨
   (∃ p, Lx.tokens s.data.toList = .error p ∧ e = .panicked [{ v := .iface 29 (.agg #[.int .i64 11, .int .i64 (p : Nat)]), recovered := false }]))

set_option maxHeartbeats 1600000 in
theorem scan_any (s : ByteArray) (w : World) (hs : s.size ≤ 2000) :
    Calls Try.prog 35 #[.string s] w (ScanPost s w) := by
  have hs' : s.size ≤ maxLen := by unfold maxLen; omega
  obtain ⟨i0, hi, hz0, hz1, hz2⟩ := info_parts Try.infoTok
  have HI : Hid (Try.prog.info? 37 = some i0 ∧ i0.zero = some (.agg #[.int .i64 0, .string ⟨#[]⟩, .int .i64 0]) ∧ i0.size = 3 ∧ i0.bytes = 32) := ⟨hi, hz0, hz1, hz2⟩
  clear hi hz0 hz1 hz2
  have hg := Lx.gap_le false s.data.toList
  have hl : s.data.toList.length = s.size := by simp
  rw [hl] at hg
  have HR : Hid (Lx.tokens s.data.toList = Lx.run (s.size + 1) (s.data.toList.drop (Lx.gap false s.data.toList)) (Lx.gap false s.data.toList)) := by
    show _ = _
    rw [Lx.tokens, hl]
  clear hl
  go_enter Try.func35, Try.ntmps35
  go_wp2_with (go_at_call 62; refine (gapEnd_any _ _ _ hs' (by omega) (by omega)).mono ?_; rintro e W ⟨rfl, rfl⟩)
  go_loopw [3, 4] (fun v i wr => ∃ (k f : Nat) (acc : List Lx.Tok), k ≤ s.size ∧ i = .int .i64 k ∧ s.size < k + f ∧ acc.length ≤ k ∧ Hid (Lx.tokens s.data.toList = Lx.pre acc (Lx.run f (s.data.toList.drop k) k)) ∧
      wr.ownsRow W.heap.size 37 3 v acc.length (toksCells acc) ∧ Below W.heap.size W wr) (fun _ i _ => s.size - (intOf i).toNat)
  case atStart => exact ⟨Lx.gap false s.data.toList, s.size + 1, [], hg, rfl, by omega, by simp, by show _ = _; rw [Lx.pre_nil]; exact HR.out, World.ownsRow_nil _ _ _ _, Below.refl _ _⟩
  case round =>
    obtain ⟨k, f, acc, hk, rfl, hf, ha, hE, hown, hnx⟩ := hrel
    clear HR hg
    by_cases hlt : k < s.size
    · obtain ⟨f, rfl⟩ : ∃ g, f = g + 1 := ⟨f - 1, by omega⟩
      have hne : s.data.toList.drop k ≠ [] := by rw [Lx.drop_cons s k hlt]; simp
      cases ht : Lx.tokenAt (s.data.toList.drop k) with
      | none =>
        have HT : Hid (Lx.tokenAt (s.data.toList.drop k) = none) := ht
        have P : Hid (Lx.tokens s.data.toList = .error k) := by
          show _ = _
          rw [hE.out, Lx.run_none hne ht]; rfl
        clear ht hE hne
        go_wp2_with (go_at_call 63; refine (token_no _ _ _ hs hlt HT).mono ?_; rintro e w1 ⟨rfl, hb⟩)
        exact ⟨rfl, hnx.trans (hb.mono hnx.size), Or.inr ⟨k, P.out, rfl⟩⟩
      | some t =>
        have HT : Hid (Lx.tokenAt (s.data.toList.drop k) = some t) := ht
        have hlen := Lx.tokenAt_len ht
        have hd : (s.data.toList.drop k).length = s.size - k := by simp
        rw [hd] at hlen
        have P := hE.out
        rw [Lx.run_some ht, Lx.pre_pre, List.drop_drop (i := t.2.2), List.drop_drop] at P
        have hgl := Lx.gap_le false (s.data.toList.drop (k + t.2.2))
        have hd2 : (s.data.toList.drop (k + t.2.2)).length = s.size - (k + t.2.2) := by simp
        rw [hd2] at hgl
        have HP : Hid (Lx.tokens s.data.toList = Lx.pre (acc ++ [⟨t.1, t.2.1, k⟩]) (Lx.run f (s.data.toList.drop (k + t.2.2 + Lx.gap false (s.data.toList.drop (k + t.2.2)))) (k + t.2.2 + Lx.gap false (s.data.toList.drop (k + t.2.2))))) := P
        clear ht hE hne hd hd2 P
        obtain ⟨t1, t2, t3⟩ := t
        simp only at hlen hgl HP
        go_wp2_with (first
          | (go_at_call 63; refine (token_yes _ _ _ hs hlt _ HT).mono ?_; rintro e w1 ⟨rfl, hb⟩; unfold tokVal; have hown1 := ownsRow_below hown hb)
          | (at_builtin; refine wpList_append_own _ rfl _ _ 32 rfl W.heap.size 37 i0 (.agg #[.int .i64 0, .string ⟨#[]⟩, .int .i64 0]) 3 32 Try.underlying32 HI.out.1 HI.out.2.1 HI.out.2.2.1 HI.out.2.2.2 rfl (by decide) _ _ _ rfl ((hown1.alloc _).alloc _) ⟨w1.heap.size + 1, 0, none⟩ 1 1 [.int .i64 t1, .string ⟨t2.toArray⟩, .int .i64 k] rfl rfl ?c1 ?c2 ?c3 ?c4 ?c5 ?_)
          | (go_at_call 62; fail))
        case c1 => have := cell_three_new (w1.alloc (.cells #[.int .i64 t1, .string ⟨t2.toArray⟩, .int .i64 k] 37)) (.int .i64 t1) (.string ⟨t2.toArray⟩) (.int .i64 k) 37; simpa using this
        case c2 => intro u hu; simp at hu; rcases hu with rfl | rfl | rfl <;> rfl
        case c3 => unfold maxLen; omega
        case c4 => omega
        case c5 => have := hnx.size; have := hb.size; simp; omega
        intro v' w2 hown2 hgrow _
        have hb2 : Below W.heap.size W w2 := (((hnx.trans (hb.mono hnx.size)).alloc (by have := hnx.size; have := hb.size; omega) _).alloc (by have := hnx.size; have := hb.size; simp; omega) _).grown hgrow (by have := hnx.size; have := hb.size; simp; omega) (fun q hq => (hown.lt q hq).1)
        have hown3 : w2.ownsRow W.heap.size 37 3 v' (acc ++ [(⟨t1, t2, k⟩ : Lx.Tok)]).length (toksCells (acc ++ [⟨t1, t2, k⟩])) := by
          rw [List.length_append, toksCells_snoc]; exact hown2
        clear hown2 hgrow hown1 hown hb hnx HT HI
        go_wp2_with (go_at_call 62; refine (gapEnd_any _ _ _ hs' (by omega) (by omega)).mono ?_; rintro e w3 ⟨rfl, rfl⟩; rw [show ((k : Int) + (t3 : Int)).toNat = k + t3 from by omega])
        go_roundw
        case rel => exact ⟨k + t3 + Lx.gap false (s.data.toList.drop (k + t3)), f, acc ++ [⟨t1, t2, k⟩], by omega, by go_num, by omega, by simp; omega, HP, hown3, hb2⟩
        case measure => simp [intOf]; omega
    · have P : Hid (Lx.tokens s.data.toList = .ok acc) := by
        show _ = _
        obtain ⟨f, rfl⟩ : ∃ g, f = g + 1 := ⟨f - 1, by omega⟩
        rw [hE.out, List.drop_of_length_le (by simp; omega)]; simp [Lx.run, Lx.pre]
      clear hE
      go_wp2
      go_ret
      obtain ⟨ao, n, c, hv⟩ := ownsRow_shape hown
      exact ⟨hnx, Or.inl ⟨acc, ao, n, c, P.out, congrArg Ending.returned hv, hv ▸ hown⟩⟩
end Go.Proofs.Ytimjopaedfefmaa
