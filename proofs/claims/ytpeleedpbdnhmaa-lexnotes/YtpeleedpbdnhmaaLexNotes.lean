/-
  LexNotes: of every text: blanks, tabs, newlines and notes more, ahead of a token, change no token but its place. No condition.
-/
import Derived.Test.YtpeleedpbdnhmaaLexWakes
import Derived.Test.YtpeleedpbdnhmaaLexNotesMath
import Derived.Deep.QuietTactic
import Derived.BigQuiet
import Derived.WalkSmall
import Derived.OpenShut
import Derived.Deep.RegionWith
import Derived.Deep.DeepCutAuto
namespace Go.Proofs.Ytpeleedpbdnhmaa
open Go.RowKit

/-- a slice of integers that came in: nil, or a row of 'cap' cells, the numbers 'zs' -/
def IsRow (k : IntKind) (w : World) (a : Option Addr) (len cap : Nat) (zs : List Int) : Prop :=
  (a = none ∧ len = 0 ∧ cap = 0 ∧ zs = []) ∨
  ∃ x, a = some x ∧ len ≤ cap ∧ cap ≤ maxLen ∧ zs.length = cap ∧ (∀ i, i < zs.length → w.cell? (x.add i) = some (.int k (zs.getD i 0))) ∧ ∀ n ∈ zs, (Lit.int k n).wf = true

/-- its cells, one by one -/
theorem IsRow.cell {k : IntKind} {w : World} {a : Option Addr} {len cap : Nat} {zs : List Int} (h : IsRow k w a len cap zs) :
    len ≤ maxLen ∧ ∀ i, i < len → ∃ b o z, a = some ⟨b, o, none⟩ ∧ b < w.heap.size ∧ w.cell? ⟨b, o + i, none⟩ = some (.int k z) ∧ (Lit.int k z).wf = true := by
  rcases h with ⟨rfl, rfl, rfl, rfl⟩ | ⟨x, rfl, h1, h2, h3, h4, h5⟩
  · exact ⟨by unfold maxLen; omega, fun i hi => by omega⟩
  · refine ⟨by omega, fun i hi => ?_⟩
    have hc := h4 i (by omega)
    obtain ⟨b, o, rfl, hc'⟩ := ints_at h4 (by omega)
    have := hc' i (by omega)
    refine ⟨b, o, zs.getD i 0, rfl, World.block_lt_of_cell? _ _ this, this, ?_⟩
    have hz : zs.getD i 0 = zs[i]'(by omega) := by simp [List.getD, show i < zs.length from by omega]
    rw [hz]
    exact h5 _ (List.getElem_mem _)

theorem notes_list (a b : ByteArray) : (a ++ b).data.toList = a.data.toList ++ b.data.toList := by simp

theorem below_undrew {B : Nat} {a b : World} (h : Below B a.drew b) : Below B a b := ⟨h.os, h.tape, h.output, h.size, h.block⟩

theorem notes_meet1 {w wr w3 : World} {A : Value} {ts us : List Lx.Tok} {ao3 : Option Addr} {c3 : Nat} (hBw : Below w.heap.size w wr) (ownA : wr.ownsRow w.heap.size 36 3 A ts.length (toksCells ts))
    (hb3 : Below wr.drew.heap.size wr.drew w3) (hown3 : w3.ownsRow wr.drew.heap.size 36 3 (.slice ao3 us.length c3) us.length (toksCells us)) :
    ∃ a c B3, Value.slice ao3 us.length c3 = .slice a us.length c ∧ Value.pointer (some ⟨w3.heap.size, 0, none⟩) = .pointer (some ⟨B3, 0, none⟩) ∧ (w3.alloc (.cells #[.int .i64 0, .int .i64 0] 26)).cell? ⟨B3, 0, none⟩ = some (.int .i64 0) ∧
      Below w.heap.size w (w3.alloc (.cells #[.int .i64 0, .int .i64 0] 26)) ∧ (w3.alloc (.cells #[.int .i64 0, .int .i64 0] 26)).ownsRow w.heap.size 36 3 (.slice a us.length c) us.length (toksCells us) ∧
      (w3.alloc (.cells #[.int .i64 0, .int .i64 0] 26)).ownsRow w.heap.size 36 3 A ts.length (toksCells ts) := by
  have h3 : Below wr.heap.size wr w3 := below_undrew hb3
  have q : Below w.heap.size w w3 := hBw.trans (h3.mono hBw.size)
  exact ⟨ao3, c3, w3.heap.size, rfl, rfl, by simp [go_sem], q.alloc q.size _, (ownsRow_from hown3 hBw.size).alloc _, (ownsRow_below ownA h3).alloc _⟩

theorem notes_meet2 {w wr w3 : World} {A : Value} {ts us : List Lx.Tok} {ao3 : Option Addr} {c3 : Nat} (hBw : Below w.heap.size w wr) (ownA : wr.ownsRow w.heap.size 36 3 A ts.length (toksCells ts))
    (hb3 : Below (wr.alloc (.cells #[.int .i64 0, .int .i64 0] 26)).drew.heap.size (wr.alloc (.cells #[.int .i64 0, .int .i64 0] 26)).drew w3)
    (hown3 : w3.ownsRow (wr.alloc (.cells #[.int .i64 0, .int .i64 0] 26)).drew.heap.size 36 3 (.slice ao3 us.length c3) us.length (toksCells us)) :
    ∃ a c B3, Value.slice ao3 us.length c3 = .slice a us.length c ∧ Value.pointer (some ⟨wr.heap.size, 0, none⟩) = .pointer (some ⟨B3, 0, none⟩) ∧ ((w3.setCell ⟨wr.heap.size, 0, none⟩ (.int .i64 0)).setCell ⟨wr.heap.size, 1, none⟩ (.int .i64 0)).cell? ⟨B3, 0, none⟩ = some (.int .i64 0) ∧
      Below w.heap.size w ((w3.setCell ⟨wr.heap.size, 0, none⟩ (.int .i64 0)).setCell ⟨wr.heap.size, 1, none⟩ (.int .i64 0)) ∧ ((w3.setCell ⟨wr.heap.size, 0, none⟩ (.int .i64 0)).setCell ⟨wr.heap.size, 1, none⟩ (.int .i64 0)).ownsRow w.heap.size 36 3 (.slice a us.length c) us.length (toksCells us) ∧
      ((w3.setCell ⟨wr.heap.size, 0, none⟩ (.int .i64 0)).setCell ⟨wr.heap.size, 1, none⟩ (.int .i64 0)).ownsRow w.heap.size 36 3 A ts.length (toksCells ts) := by
  have h3 : Below (wr.alloc (.cells #[.int .i64 0, .int .i64 0] 26)).heap.size (wr.alloc (.cells #[.int .i64 0, .int .i64 0] 26)) w3 := below_undrew hb3
  have h4 : Below wr.heap.size wr w3 := ((Below.refl _ wr).alloc (Nat.le_refl _) _).trans (h3.mono (by simp))
  have q : Below w.heap.size w w3 := hBw.trans (h4.mono hBw.size)
  have c0 : w3.cell? ⟨wr.heap.size, 0, none⟩ = some (.int .i64 0) := (h3.cell (by simp)).trans (by simp [go_sem])
  have hA : ∀ a : Addr, a.block = wr.heap.size → A.ownBlock ≠ some a.block := fun a ha e => by
    have := (ownA.lt _ e).2
    omega
  have hU : wr.heap.size < (wr.alloc (.cells #[.int .i64 0, .int .i64 0] 26)).drew.heap.size := by simp
  refine ⟨ao3, c3, wr.heap.size, rfl, rfl, by simp [go_sem, c0], (q.setCell (by exact hBw.size) _).setCell (by exact hBw.size) _, ?_, ?_⟩
  · exact ownsRow_from (ownsRow_setCell_below (ownsRow_setCell_below hown3 (by exact hU) _) (by exact hU) _) (by have := hBw.size; simp; omega)
  · exact ownsRow_setCell_other (ownsRow_setCell_other (ownsRow_below ownA h4) (hA _ rfl) _) (hA _ rfl) _

theorem tokN_cases (l : List UInt8) (h : l.length ≤ 2000) : (∃ ts, tokensG l = (0, 0, ts) ∧ Lx.tokens l = .ok ts) ∨ (∃ q : Nat, tokensG l = ((11 : Int), (q : Int), []) ∧ Lx.tokens l = .error q) := by
  unfold tokensG
  rw [if_neg (by omega)]
  cases hr : Lx.tokens l with
  | ok ts => exact .inl ⟨ts, rfl, rfl⟩
  | error q => exact .inr ⟨q, rfl, rfl⟩

set_option maxRecDepth 100000 in
set_option maxHeartbeats 4000000 in
theorem lexNotes_walk (s : ByteArray) (at0 : Int) (ad : Option Addr) (len cap : Nat) (zs : List Int) (w : World) (hs : s.size ≤ maxLen) (hat : (Lit.int .u8 at0).wf = true) (hrow : IsRow .u8 w ad len cap zs) :
    Calls Try.prog 7 #[.string s, .int .u8 at0, .slice ad len cap] w fun e w' => e = .returned (.bool true) ∧ Below w.heap.size w w' := by
  have hs' := hs
  obtain ⟨hlen, hcell⟩ := hrow.cell
  unfold maxLen at hs hlen
  obtain ⟨n, rfl⟩ := Int.eq_ofNat_of_zero_le (bounds_u8 hat).1
  have hn := (bounds_u8 hat).2
  have HCell : Hid _ := hcell
  clear hcell hat hrow
  by_cases h2 : 1000 < s.size
  · go_enter Try.func7, Try.ntmps7
    go_wp2_with (go_at_call 9; refine (wakes_any _).mono ?_; rintro e w1 ⟨rfl, hb⟩)
    go_ret
    exact ⟨rfl, hb⟩
  · have d2 : decide (1000 < (s.size : Int)) = false := by simp; omega
    by_cases h3 : 100 < len
    · go_enter Try.func7, Try.ntmps7
      go_wp2_with (go_at_call 9; refine (wakes_any _).mono ?_; rintro e w1 ⟨rfl, hb⟩)
      go_ret
      exact ⟨rfl, hb⟩
    · have d3 : decide (100 < (len : Int)) = false := by simp; omega
      have LS : s.data.toList.length = s.size := by simp
      rcases tokN_cases s.data.toList (by omega) with ⟨ts, hG, hT⟩ | ⟨q, hG, hT⟩
      · have HG : Hid (tokensG s.data.toList = (0, 0, ts)) := hG
        have HT : Hid (Lx.tokens s.data.toList = .ok ts) := hT
        have hcount := Lx.tokens_count hT
        rw [LS] at hcount
        clear hG hT LS
        go_enter Try.func7, Try.ntmps7
        go_wp2_with fail
        refine (tokens_is s 0 0 ts _ hs' HG).mono ?_
        rintro e w1 ⟨ao, c, rfl, hb1, hown⟩
        by_cases h0 : ts.length = 0
        · have e0 : ((ts.length : Int) == 0) = true := beq_iff_eq.2 (by omega)
          clear hown HG HT HCell
          go_wp2_with (go_at_call 9; refine (wakes_any _).mono ?_; rintro e w5 ⟨rfl, hb5⟩)
          go_ret
          exact ⟨rfl, (hb1.alloc hb1.size _).trans (hb5.mono (by have := hb1.size; simp; omega))⟩
        · have e0 : ((ts.length : Int) == 0) = false := beq_eq_false_iff_ne.2 (by omega)
          have hkl : n % ts.length < ts.length := Nat.mod_lt _ (by omega)
          obtain ⟨k, HK⟩ : ∃ k, Hid (n % ts.length = k) := ⟨_, rfl⟩
          have hk : k < ts.length := by rw [← HK.out]; exact hkl
          have hkI : (n : Int) % (ts.length : Int) = (k : Int) := by rw [← HK.out]; rfl
          clear hkl
          obtain ⟨aoA, cA, hv, hr⟩ := toks_read hown
          simp only [Value.slice.injEq, true_and] at hv
          obtain ⟨rfl, rfl⟩ := hv
          have RA : Hid _ := hr
          have hr0 := hr k hk
          clear hr
          obtain ⟨gA, rfl, _, hgA, _, _, a2⟩ := hr0
          obtain ⟨p, HPs⟩ : ∃ p, Hid (ts[k].pos = p) := ⟨ts[k].pos, by show _ = _; rfl⟩
          rw [HPs.out] at a2
          have hp : p ≤ s.size := by
            have := (Lx.tokens_insert (x := []) rfl HT.out k hk).1
            rw [HPs.out] at this
            simpa using this
          have dp : decide ((p : Int) < 0) = false := by simp
          have dq : decide ((s.size : Int) < (p : Int)) = false := by simp; omega
          go_wp2_with fail
          go_loopw [11, 12] (fun v i wr => ∃ (j : Nat) (X : ByteArray), j ≤ len ∧ i = .int .i64 j ∧ v = .string X ∧ X.size ≤ 10 * j ∧ Hid (Lx.st false X.data.toList = some false) ∧
              Below (w1.alloc (.cells #[.int .i64 0, .int .i64 0] 26)).heap.size (w1.alloc (.cells #[.int .i64 0, .int .i64 0] 26)) wr) (fun _ i _ => len - (intOf i).toNat)
          case atStart => exact ⟨0, ⟨#[]⟩, Nat.zero_le _, rfl, rfl, Nat.zero_le _, rfl, Below.refl _ _⟩
          case round =>
            obtain ⟨j, X, hj, rfl, rfl, hX, hSt, hbr⟩ := hrel
            by_cases hjl : j < len
            · obtain ⟨b, o, z, rfl, hbb, hz, hwf⟩ := HCell.out j hjl
              have hz := later_alloc hbr (cell_later hb1 hz)
              have hbz := bounds_u8 hwf
              have hbw : b < wr.heap.size := by have := hb1.size; have := hbr.size; simp at this; omega
              have hm : z % 4 = 0 ∨ z % 4 = 1 ∨ z % 4 = 2 ∨ z % 4 = 3 := by omega
              obtain ⟨hz0, hz1⟩ := hbz
              clear hwf
              rcases hm with hm | hm | hm | hm
              · have R : Hid (Lx.st false (X ++ ⟨#[32]⟩ : ByteArray).data.toList = some false) := by
                  show _ = _
                  rw [notes_list]; exact Lx.st_closed hSt.out (by rfl)
                have hsz : (X ++ ⟨#[32]⟩ : ByteArray).size ≤ 10 * (j + 1) := by
                  have e : (⟨#[32]⟩ : ByteArray).size ≤ 10 := by decide
                  rw [ByteArray.size_append]; omega
                go_wp2_with fail
                go_roundw
                case rel => exact ⟨j + 1, _, by omega, by go_num, rfl, hsz, R, hbr.alloc (by have := hbr.size; simpa using this) _⟩
                case measure => simp [intOf]; omega
              · have R : Hid (Lx.st false (X ++ ⟨#[9]⟩ : ByteArray).data.toList = some false) := by
                  show _ = _
                  rw [notes_list]; exact Lx.st_closed hSt.out (by rfl)
                have hsz : (X ++ ⟨#[9]⟩ : ByteArray).size ≤ 10 * (j + 1) := by
                  have e : (⟨#[9]⟩ : ByteArray).size ≤ 10 := by decide
                  rw [ByteArray.size_append]; omega
                go_wp2_with fail
                go_roundw
                case rel => exact ⟨j + 1, _, by omega, by go_num, rfl, hsz, R, hbr.alloc (by have := hbr.size; simpa using this) _⟩
                case measure => simp [intOf]; omega
              · have R : Hid (Lx.st false (X ++ ⟨#[10]⟩ : ByteArray).data.toList = some false) := by
                  show _ = _
                  rw [notes_list]; exact Lx.st_closed hSt.out (by rfl)
                have hsz : (X ++ ⟨#[10]⟩ : ByteArray).size ≤ 10 * (j + 1) := by
                  have e : (⟨#[10]⟩ : ByteArray).size ≤ 10 := by decide
                  rw [ByteArray.size_append]; omega
                go_wp2_with fail
                go_roundw
                case rel => exact ⟨j + 1, _, by omega, by go_num, rfl, hsz, R, hbr.alloc (by have := hbr.size; simpa using this) _⟩
                case measure => simp [intOf]; omega
              · have R : Hid (Lx.st false (X ++ ⟨#[35, 32, 97, 32, 39, 98, 39, 32, 59, 10]⟩ : ByteArray).data.toList = some false) := by
                  show _ = _
                  rw [notes_list]; exact Lx.st_closed hSt.out (by rfl)
                have hsz : (X ++ ⟨#[35, 32, 97, 32, 39, 98, 39, 32, 59, 10]⟩ : ByteArray).size ≤ 10 * (j + 1) := by
                  have e : (⟨#[35, 32, 97, 32, 39, 98, 39, 32, 59, 10]⟩ : ByteArray).size ≤ 10 := by decide
                  rw [ByteArray.size_append]; omega
                go_wp2_with fail
                go_roundw
                case rel => exact ⟨j + 1, _, by omega, by go_num, rfl, hsz, R, hbr.alloc (by have := hbr.size; simpa using this) _⟩
                case measure => simp [intOf]; omega
            · have hN := (Lx.tokens_insert hSt.out HT.out k hk).2
              rw [HPs.out] at hN
              obtain ⟨us, HU⟩ : ∃ us, Hid (ts.take k ++ (ts.drop k).map (Lx.shiftT X.size) = us) := ⟨_, rfl⟩
              have hXl : X.data.toList.length = X.size := by simp
              rw [hXl, HU.out] at hN
              have HN : Hid (tokensG (s.extract 0 p ++ X ++ s.extract p s.size : ByteArray).data.toList = (0, 0, us)) := by
                show _ = _
                have e : (s.extract 0 p ++ X ++ s.extract p s.size : ByteArray).data.toList = s.data.toList.take p ++ X.data.toList ++ s.data.toList.drop p := by
                  rw [notes_list, notes_list, Lx.extract_list, Lx.extract_list, List.drop_zero, Nat.sub_zero, List.take_of_length_le (l := List.drop p s.data.toList) (by simp)]
                have hl : (s.data.toList.take p ++ X.data.toList ++ s.data.toList.drop p).length ≤ 2000 := by
                  rw [List.length_append, List.length_append, List.length_take, List.length_drop, hXl]
                  have : s.data.toList.length = s.size := by simp
                  omega
                rw [e, tokensG, if_neg (by omega), hN]
              have hul : us.length = ts.length := by rw [← HU.out]; simp; omega
              have hsz : (s.extract 0 p ++ X ++ s.extract p s.size : ByteArray).size ≤ maxLen := by
                unfold maxLen
                rw [ByteArray.size_append, ByteArray.size_append, ByteArray.size_extract, ByteArray.size_extract]; omega
              have HUL : Hid (us.length = ts.length) := hul
              clear hul hN hXl
              have k0 : (0 : Int) ≤ (p : Int) := Int.natCast_nonneg _
              have k1 : (p : Int) ≤ (s.size : Int) := by omega
              have ownA : wr.ownsRow w.heap.size 36 3 (.slice (some ⟨gA, 0, none⟩) ts.length c) ts.length (toksCells ts) := ownsRow_below (hown.alloc _) hbr
              have hBw : Below w.heap.size w wr := (hb1.alloc hb1.size _).trans (hbr.mono (by have := hb1.size; simp; omega))
              clear hbr hown RA
              go_upto_region 15 with fail
              simp only [hkI]
              clear hkI
              go_cut [13, 14] (fun a b wc => ∃ ao3 c3 B3, a = .slice ao3 us.length c3 ∧ b = .pointer (some ⟨B3, 0, none⟩) ∧ wc.cell? ⟨B3, 0, none⟩ = some (.int .i64 0) ∧ Below w.heap.size w wc ∧
                wc.ownsRow w.heap.size 36 3 (.slice ao3 us.length c3) us.length (toksCells us) ∧ wc.ownsRow w.heap.size 36 3 (.slice (some ⟨gA, 0, none⟩) ts.length c) ts.length (toksCells ts))
              case first =>
                go_region_with (go_at_call 10; refine (tokens_is (s.extract 0 p ++ X ++ s.extract p s.size) 0 0 us _ hsz HN).mono ?_; rintro e w3 ⟨ao3, c3, rfl, hb3, hown3⟩; first | (have s0 : w3.cell? ⟨wr.heap.size, 0, none⟩ = some (.int .i64 0) := (hb3.cell (by simp)).trans (by simp [go_sem]); have s1 : w3.cell? ⟨wr.heap.size, 1, none⟩ = some (.int .i64 0) := (hb3.cell (by simp)).trans (by simp [go_sem]); have s2 : w3.frozen? ⟨wr.heap.size, 0, none⟩ = false := (hb3.frozen (by simp)).trans (by simp [go_sem]); have s3 : w3.frozen? ⟨wr.heap.size, 1, none⟩ = false := (hb3.frozen (by simp)).trans (by simp [go_sem]); have s4 : wr.heap.size < w3.heap.size := by have := hb3.size; simp at this; omega) | skip)
                all_goals
                  go_wp2_with fail
                  go_meet
                  case rel =>
                    first
                      | exact notes_meet1 hBw ownA hb3 hown3
                      | exact notes_meet2 hBw ownA hb3 hown3
              case rest =>
                obtain ⟨ao3, c3, B3, rfl, rfl, e3, hBc, ownU, ownT⟩ := hcut
                have hne : ((us.length : Int) != (ts.length : Int)) = false := by rw [bne_eq_false_iff_eq, HUL.out]
                have HPos : Hid (∀ x ∈ ts, x.pos ≤ 2000) := fun x hx => by
                  have h1 := Lx.run_pos _ _ _ _ HT.out x hx
                  have h2 : s.data.toList.length = s.size := by simp
                  have h4 := Lx.gap_le false s.data.toList
                  rw [List.length_drop] at h1
                  omega
                have HE : Hid (∀ i (h1 : i < us.length) (h2 : i < ts.length), us[i] = if i < k then ts[i] else Lx.shiftT X.size ts[i]) := fun i h1 h2 => by
                  have e := HU.out
                  subst e
                  by_cases hik : i < k
                  · rw [if_pos hik, List.getElem_append_left (by simp; omega)]; simp
                  · rw [if_neg hik, List.getElem_append_right (by simp; omega)]
                    simp only [List.getElem_map, List.getElem_drop, List.length_take]
                    congr 2
                    omega
                obtain ⟨x1, x2, hv, hr⟩ := toks_read ownT
                simp only [Value.slice.injEq, true_and] at hv
                obtain ⟨rfl, rfl⟩ := hv
                have RT : Hid _ := hr
                clear hr
                obtain ⟨x1, x2, hv, hr⟩ := toks_read ownU
                simp only [Value.slice.injEq, true_and] at hv
                obtain ⟨rfl, rfl⟩ := hv
                have RU : Hid _ := hr
                have hlu1 : us.length ≤ ts.length := by rw [HUL.out]; exact Nat.le_refl _
                have hlu2 : ts.length ≤ us.length := by rw [HUL.out]; exact Nat.le_refl _
                clear hr ownT ownU hSt HT HU HN hsz HCell
                go_wp2_with fail
                go_loopw [15] (fun i wr => ∃ q : Nat, q ≤ ts.length ∧ i = .int .i64 q ∧ Below wc.heap.size wc wr) (fun i _ => ts.length - (intOf i).toNat)
                case atStart => exact ⟨0, Nat.zero_le _, rfl, Below.refl _ _⟩
                case round =>
                  obtain ⟨q, hq, rfl, hbr⟩ := hrel
                  by_cases hlt : q < ts.length
                  · obtain ⟨gT, hgT, _, hgT1, a0, a1, a2⟩ := RT.out q hlt
                    cases hgT
                    obtain ⟨gU, rfl, _, hgU, b0, b1, b2⟩ := RU.out q (by omega)
                    have he := HE.out q (by omega) hlt
                    have hps := HPos.out ts[q] (List.getElem_mem hlt)
                    replace a0 := cell_later hbr a0
                    replace a1 := cell_later hbr a1
                    replace a2 := cell_later hbr a2
                    replace b0 := cell_later hbr b0
                    replace b1 := cell_later hbr b1
                    replace b2 := cell_later hbr b2
                    have zT : gA < wr.heap.size := by have := hbr.size; omega
                    have zU : gU < wr.heap.size := by have := hbr.size; omega
                    by_cases hqk : q < k
                    · rw [if_pos hqk] at he
                      rw [he] at b0 b1 b2
                      clear he
                      generalize ts[q] = x at *
                      obtain ⟨kd, tx, ps⟩ := x
                      simp only at a0 a1 a2 b0 b1 b2
                      go_wp2_with fail
                      go_quiet (fail)
                      go_wp2_with fail
                      go_roundw
                      case rel => exact ⟨q + 1, by omega, by go_num, below_drewN (hbr.alloc hbr.size _) _⟩
                      case measure => simp [intOf]; omega
                    · rw [if_neg hqk] at he
                      rw [he] at b0 b1 b2
                      clear he
                      generalize ts[q] = x at *
                      obtain ⟨kd, tx, ps⟩ := x
                      simp only [Lx.shiftT] at a0 a1 a2 b0 b1 b2 hps
                      have hb2 : (((ps + X.size : Nat) : Int)) = (ps : Int) + (X.size : Int) := by omega
                      rw [hb2] at b2
                      clear hb2
                      go_wp2_with fail
                      go_quiet (fail)
                      go_wp2_with fail
                      go_roundw
                      case rel => exact ⟨q + 1, by omega, by go_num, below_drewN (hbr.alloc hbr.size _) _⟩
                      case measure => simp [intOf]; omega
                  · go_wp2_with (go_at_call 9; refine (wakes_any _).mono ?_; rintro e w5 ⟨rfl, hb5⟩)
                    go_ret
                    have qq : Below w.heap.size w wr := hBc.trans (hbr.mono hBc.size)
                    exact ⟨rfl, qq.trans (hb5.mono qq.size)⟩
      · have HG : Hid (tokensG s.data.toList = ((11 : Int), (q : Int), [])) := hG
        clear hG hT LS HCell
        go_enter Try.func7, Try.ntmps7
        go_wp2_with fail
        refine (tokens_is s 11 q [] _ hs' HG).mono ?_
        rintro e w1 ⟨ao, c, rfl, hb1, hown⟩
        clear hown HG
        simp only [List.length_nil]
        go_wp2_with (go_at_call 9; refine (wakes_any _).mono ?_; rintro e w5 ⟨rfl, hb5⟩)
        go_ret
        exact ⟨rfl, (hb1.alloc hb1.size _).trans (hb5.mono (by have := hb1.size; simp; omega))⟩
end Go.Proofs.Ytpeleedpbdnhmaa
