/-
  The law ReadTells, walked: it returns true, of every row of tokens, every number.
-/
import Derived.Test.YtjcgnablfhkmoaaReadRef
import Derived.Laws.AppendOwnNone
namespace Go.Proofs.Ytjcgnablfhkmoaa
open Go.RowKit

theorem tks_nil {H : Type} {enc : TypeId × Value → H} {w : World} {base : Nat} {spare : Nat → Bool} {held : Bool} {fuel n c : Nat} {x : DataW H × List MemPlace}
    (h : DataW.trod enc Try.prog w base spare held fuel 22 [.slice none n c] = some x) : c = 0 := by
  rcases Go.Deep.open_slice Try.underlying22 h with ⟨e, _⟩ | ⟨a, len, cap, m, n', D, Pl, e, _⟩
  · simp at e; exact e.2
  · simp at e

theorem refAlts_is (ao : Option Addr) (c : Nat) (ts : List Rd.Tk) (en : Int) (E At : Int) (xs : List Rd.Al) (w : World) (hl : ts.length ≤ 2000) (h : TksAt w.heap.size w ao ts) (HG : Hid (Rd.altsG ts en = (E, At, xs))) :
    Calls Try.prog 12 #[.slice ao ts.length c, .int .i64 en] w fun e w' => ∃ xo xc, e = .returned (.agg #[.slice xo xs.length xc, .int .i64 E, .int .i64 At]) ∧ Hid (Below w.heap.size w w') ∧ Hid (AlsAt w.heap.size w' (.slice xo xs.length xc) xs) := by
  refine (refAlts_any ao c ts en w hl h).mono ?_
  rintro e w1 ⟨hb, v, rfl, hown⟩
  rw [HG.out] at hown ⊢
  obtain ⟨xo, xc, hv, _⟩ := hown.read
  subst hv
  exact ⟨xo, xc, rfl, hb, hown⟩

theorem empty_tks (w : World) (base : Nat) (h : base ≤ w.heap.size) : (w.alloc (Obj.cells #[] 38)).ownsRow base 38 3 (.slice (some ⟨w.heap.size, 0, none⟩) 0 0) 0 [] :=
  ⟨rfl, .inr ⟨w.heap.size, 0, #[], rfl, h, heap_alloc_new w _, Nat.le_refl _, Nat.zero_le _, rfl, rfl⟩⟩


set_option maxRecDepth 100000 in
set_option maxHeartbeats 8000000 in
theorem readTells_walk (ao : Option Addr) (c : Nat) (ts : List Rd.Tk) (en : Int) (w : World) (hT : TksAt w.heap.size w ao ts) (hc : ts.length ≤ c ∧ c ≤ maxLen) (hm : ∀ t ∈ ts, t.text.size ≤ maxLen) (hn : ao = none → c = 0) (_hw : (Lit.int .i64 en).wf = true) :
    Calls Try.prog 3 #[.slice ao ts.length c, .int .i64 en] w fun e w' => e = .returned (.bool true) ∧ Below w.heap.size w w' := by
  have hlm : ts.length ≤ maxLen := Nat.le_trans hc.1 hc.2
  have HT : Hid (TksAt w.heap.size w ao ts) := hT
  have HM : Hid (∀ t ∈ ts, t.text.size ≤ maxLen) := hm
  have HN : Hid (ao = none → c = 0) := hn
  clear hT hc hm hn
  cases hf : fair ts
  · go_enter Try.func3, Try.ntmps3
    go_wp2_with (first | (go_at_call 9; refine (fair_is _ _ _ _ _ hlm HM.out HT.out hf).mono ?_; rintro e w1 ⟨rfl, rfl⟩) | (go_at_call 10; refine (rwakes_any _).mono ?_; rintro e w1 ⟨rfl, hb⟩))
    go_ret
    exact ⟨rfl, hb⟩
  have h7 := fair_len hf
  have HX : Hid (∀ t ∈ ts, t.text.size ≤ 281474976710656) := fair_text hf
  obtain ⟨E, At, xs, hG⟩ : ∃ E At xs, Rd.altsG ts en = (E, At, xs) := ⟨_, _, _, rfl⟩
  have HG : Hid (Rd.altsG ts en = (E, At, xs)) := hG
  have s1 := (Rd.altsG_small hG).1
  have HS : Hid (∀ x ∈ xs, x.2.length ≤ 8) := (Rd.altsG_small hG).2
  have hE : E = 0 ∨ E = 12 ∨ E = 14 := by
    rcases Rd.altsG_cases ts en with ⟨l, _, h2, _⟩ | ⟨e, _, h2, h3⟩
    · rw [hG] at h2; cases h2; exact .inl rfl
    · rw [hG] at h2; simp only [Prod.mk.injEq] at h2; omega
  clear hG
  have HO0 : Hid ((w.alloc (Obj.cells #[] 38)).ownsRow w.heap.size 38 3 (.slice (some ⟨w.heap.size, 0, none⟩) 0 0) 0 []) := empty_tks w _ (Nat.le_refl _)
  have HB0 : Hid (Below w.heap.size w (w.alloc (Obj.cells #[] 38))) := (Below.refl _ w).alloc (Nat.le_refl _) _
  cases ao with
  | none =>
    have hc0 : c = 0 := HN.out rfl
    have ht0 : ts = [] := by
      cases ts with
      | nil => rfl
      | cons t r => obtain ⟨b, o, h, _⟩ := HT.out 0 (by simp); cases h
    subst ht0
    subst hc0
    go_enter Try.func3, Try.ntmps3
    go_wp2_with (first | (go_at_call 9; refine (fair_is _ _ _ _ _ hlm HM.out HT.out hf).mono ?_; rintro e w1 ⟨rfl, rfl⟩) | (at_builtin; refine wpList_append_own_none rfl _ _ 22 rfl w.heap.size 38 _ 3 Try.underlying22 rfl (.slice (some ⟨w.heap.size, 0, none⟩) 0 0) 0 [] rfl HO0.out rfl ?_))
    have HBW : Hid (Below w.heap.size w (w.alloc (Obj.cells #[] 38))) := HB0
    have HIT : Hid (TksAt (w.alloc (Obj.cells #[] 38)).heap.size (w.alloc (Obj.cells #[] 38)) (some ⟨w.heap.size, 0, none⟩) []) := TksAt.nil
    have HIC : Hid (([] : List Rd.Tk).length ≤ 0 ∧ 0 ≤ maxLen) := ⟨Nat.le_refl _, Nat.zero_le _⟩
    clear HB0 HO0
    generalize (w.alloc (Obj.cells #[] 38)) = W at *
    refine (alts_is (some ⟨w.heap.size, 0, none⟩) 0 [] en _ _ _ W (by decide) HX.out HIC.out HIT.out HG).mono ?_
    rintro e w2 ⟨xo, xc, rfl, hb2, ha2⟩
    have HB2 : Hid (Below W.heap.size W (w2.alloc (Obj.cells #[Value.int IntKind.i64 E, Value.int IntKind.i64 At] 28))) := hb2.out.alloc hb2.out.size _
    have HBw2 : Hid (Below w.heap.size w (w2.alloc (Obj.cells #[Value.int IntKind.i64 E, Value.int IntKind.i64 At] 28))) := HBW.out.trans (HB2.out.mono HBW.out.size)
    go_wp2_with fail
    refine (refAlts_is none 0 [] en _ _ _ _ (by decide) (HT.out.later HBw2.out).size HG).mono ?_
    rintro e w3 ⟨yo, yc, rfl, hb3, ha3⟩
    have HB3 : Hid (Below w.heap.size w (w3.alloc (Obj.cells #[Value.slice yo xs.length yc, Value.int IntKind.i64 E, Value.int IntKind.i64 At] 32))) := (HBw2.out.trans (hb3.out.mono HBw2.out.size)).alloc (Nat.le_trans HBw2.out.size hb3.out.size) _
    have HB23 : Hid (Below w2.heap.size w2 (w3.alloc (Obj.cells #[Value.slice yo xs.length yc, Value.int IntKind.i64 E, Value.int IntKind.i64 At] 32))) := (((Below.refl _ w2).alloc (Nat.le_refl _) _).trans (hb3.out.mono (by simp))).alloc (by have := hb3.out.size; simp at this; omega) _
    have HBI : Hid (Below W.heap.size W (w3.alloc (Obj.cells #[Value.slice yo xs.length yc, Value.int IntKind.i64 E, Value.int IntKind.i64 At] 32))) := hb2.out.trans (HB23.out.mono hb2.out.size)
    have f0 : w3.cell? ⟨w2.heap.size, 0, none⟩ = some (.int .i64 E) := (hb3.out.cell (by simp)).trans (by simp [go_sem])
    have f1 : w3.cell? ⟨w2.heap.size, 1, none⟩ = some (.int .i64 At) := (hb3.out.cell (by simp)).trans (by simp [go_sem])
    have z3 : w2.heap.size < w3.heap.size := by have := hb3.out.size; simp at this; omega
    have hKA := keepAlts_same xs (by omega) (fun x hx => Nat.le_trans (HS.out x hx) (by decide)) xo yo xc yc W.heap.size (w2.alloc (Obj.cells #[Value.int IntKind.i64 E, Value.int IntKind.i64 At] 28)).heap.size (w3.alloc (Obj.cells #[Value.slice yo xs.length yc, Value.int IntKind.i64 E, Value.int IntKind.i64 At] 32)) (ha2.out.below HB23.out) (ha3.out.alloc _)
    have hKT := fun n => keepTokens_same [] (by decide) (some ⟨w.heap.size, 0, none⟩) none 0 0 ((w3.alloc (Obj.cells #[Value.slice yo xs.length yc, Value.int IntKind.i64 E, Value.int IntKind.i64 At] 32)).drewN n) ((HIT.out.later HBI.out).size.drewN n) ((HT.out.later HB3.out).size.drewN n)
    have HKT : Hid _ := hKT
    clear hKT
    rcases hE with rfl | rfl | rfl
    all_goals
      go_wp2_with (first | (go_at_call 13; refine hKA.mono ?_; rintro e w4 ⟨rfl, n4, rfl⟩) | (go_at_call 14; refine (HKT.out n4).mono ?_; rintro e w5 ⟨rfl, n5, rfl⟩) | (go_at_call 10; refine (rwakes_any _).mono ?_; rintro e w6 ⟨rfl, hb6⟩))
      go_ret
      have h5 := below_drewN (below_drewN HB3.out n4) n5
      exact ⟨rfl, h5.trans (by rw [World.drewN_drewN] at h5 ⊢; exact hb6.mono h5.size)⟩
  | some ad =>
    go_enter Try.func3, Try.ntmps3
    go_wp2_with (first | (go_at_call 9; refine (fair_is _ _ _ _ _ hlm HM.out HT.out hf).mono ?_; rintro e w1 ⟨rfl, rfl⟩) | (at_builtin; refine wpList_append_some (by rfl) _ _ rfl w.heap.size (.slice (some ⟨w.heap.size, 0, none⟩) 0 0) 0 [] rfl HO0.out ad ts.length c (tksCells ts) rfl ?c1 ?c2 ?c3 ?c4 ?c5 ?_))
    case c1 => exact tksCells_length ts
    case c2 => exact (HT.out.later HB0.out).cells
    case c3 => exact tksCells_one ts
    case c4 => omega
    case c5 => simp
    intro io ic W hown hgrow
    have hown' : W.ownsRow w.heap.size 38 3 (.slice io ts.length ic) ts.length (tksCells ts) := by simpa using hown
    have HBW : Hid (Below w.heap.size w W) := HB0.out.grown hgrow (by simp) (fun k hk => by simp [Value.ownBlock] at hk; omega)
    obtain ⟨io', ic', hv, hit, hic1, hic2, hnn⟩ := tks_read hown'
    cases hv
    have HIT : Hid (TksAt W.heap.size W io ts) := hit
    have HIC : Hid (ts.length ≤ ic ∧ ic ≤ maxLen) := ⟨hic1, hic2⟩
    clear hown hown' hgrow hit hnn HB0 HO0 hic1 hic2
    go_wp2_with fail
    refine (alts_is io ic ts en _ _ _ W (by omega) HX.out HIC.out HIT.out HG).mono ?_
    rintro e w2 ⟨xo, xc, rfl, hb2, ha2⟩
    have HB2 : Hid (Below W.heap.size W (w2.alloc (Obj.cells #[Value.int IntKind.i64 E, Value.int IntKind.i64 At] 28))) := hb2.out.alloc hb2.out.size _
    have HBw2 : Hid (Below w.heap.size w (w2.alloc (Obj.cells #[Value.int IntKind.i64 E, Value.int IntKind.i64 At] 28))) := HBW.out.trans (HB2.out.mono HBW.out.size)
    go_wp2_with fail
    refine (refAlts_is (some ad) c ts en _ _ _ _ (by omega) (HT.out.later HBw2.out).size HG).mono ?_
    rintro e w3 ⟨yo, yc, rfl, hb3, ha3⟩
    have HB3 : Hid (Below w.heap.size w (w3.alloc (Obj.cells #[Value.slice yo xs.length yc, Value.int IntKind.i64 E, Value.int IntKind.i64 At] 32))) := (HBw2.out.trans (hb3.out.mono HBw2.out.size)).alloc (Nat.le_trans HBw2.out.size hb3.out.size) _
    have HB23 : Hid (Below w2.heap.size w2 (w3.alloc (Obj.cells #[Value.slice yo xs.length yc, Value.int IntKind.i64 E, Value.int IntKind.i64 At] 32))) := (((Below.refl _ w2).alloc (Nat.le_refl _) _).trans (hb3.out.mono (by simp))).alloc (by have := hb3.out.size; simp at this; omega) _
    have HBI : Hid (Below W.heap.size W (w3.alloc (Obj.cells #[Value.slice yo xs.length yc, Value.int IntKind.i64 E, Value.int IntKind.i64 At] 32))) := hb2.out.trans (HB23.out.mono hb2.out.size)
    have f0 : w3.cell? ⟨w2.heap.size, 0, none⟩ = some (.int .i64 E) := (hb3.out.cell (by simp)).trans (by simp [go_sem])
    have f1 : w3.cell? ⟨w2.heap.size, 1, none⟩ = some (.int .i64 At) := (hb3.out.cell (by simp)).trans (by simp [go_sem])
    have z3 : w2.heap.size < w3.heap.size := by have := hb3.out.size; simp at this; omega
    have hKA := keepAlts_same xs (by omega) (fun x hx => Nat.le_trans (HS.out x hx) (by decide)) xo yo xc yc W.heap.size (w2.alloc (Obj.cells #[Value.int IntKind.i64 E, Value.int IntKind.i64 At] 28)).heap.size (w3.alloc (Obj.cells #[Value.slice yo xs.length yc, Value.int IntKind.i64 E, Value.int IntKind.i64 At] 32)) (ha2.out.below HB23.out) (ha3.out.alloc _)
    have hKT := fun n => keepTokens_same ts (by omega) io (some ad) ic c ((w3.alloc (Obj.cells #[Value.slice yo xs.length yc, Value.int IntKind.i64 E, Value.int IntKind.i64 At] 32)).drewN n) ((HIT.out.later HBI.out).size.drewN n) ((HT.out.later HB3.out).size.drewN n)
    have HKT : Hid _ := hKT
    clear hKT
    rcases hE with rfl | rfl | rfl
    all_goals
      go_wp2_with (first | (go_at_call 13; refine hKA.mono ?_; rintro e w4 ⟨rfl, n4, rfl⟩) | (go_at_call 14; refine (HKT.out n4).mono ?_; rintro e w5 ⟨rfl, n5, rfl⟩) | (go_at_call 10; refine (rwakes_any _).mono ?_; rintro e w6 ⟨rfl, hb6⟩))
      go_ret
      have h5 := below_drewN (below_drewN HB3.out n4) n5
      exact ⟨rfl, h5.trans (by rw [World.drewN_drewN] at h5 ⊢; exact hb6.mono h5.size)⟩
end Go.Proofs.Ytjcgnablfhkmoaa
