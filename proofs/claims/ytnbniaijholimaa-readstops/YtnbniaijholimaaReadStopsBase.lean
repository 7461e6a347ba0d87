/-
  The law ReadStops, walked: it returns true, of every row of tokens, every token, every small number.
-/
import Derived.Test.YtnbniaijholimaaReadOpen
import Derived.Test.YtnbniaijholimaaReadWakes
import Derived.Test.YtnbniaijholimaaReadMath2
import Derived.Test.YtnbniaijholimaaReadAppend
import Derived.Deep.RegionHeld3
import Derived.Deep.DeepAppendRoom
import Derived.Deep.DeepCutAuto
namespace Go.Proofs.Ytnbniaijholimaa
open Go.RowKit

/-- where definitions begin, but the first one, among the first so many tokens -/
def tl (ts : List Rd.Tk) : Nat → List Nat
  | 0 => []
  | k + 1 => tl ts k ++ (if (ts.getD k ⟨0, ⟨#[]⟩, 0⟩).kind = 5 then [k + 1] else [])

/-- where the token is put in, by a number -/
def stopAt (ts : List Rd.Tk) (m : Nat) : Nat := (0 :: tl ts ts.length).getD (m % ((tl ts ts.length).length + 1)) 0

theorem getD_nat (l : List Nat) (i d : Nat) (h : i < l.length) : l.getD i d = l[i] := by simp [List.getD, List.getElem?_eq_getElem h]

theorem tl_len (ts : List Rd.Tk) : ∀ k, (tl ts k).length ≤ k
  | 0 => Nat.le_refl _
  | k + 1 => by
    have := tl_len ts k
    rw [tl, List.length_append]
    split <;> simp <;> omega

theorem tl_mem (ts : List Rd.Tk) : ∀ k x, x ∈ tl ts k ↔ ∃ i, i < k ∧ i + 1 = x ∧ (ts.getD i ⟨0, ⟨#[]⟩, 0⟩).kind = 5
  | 0, x => by simp [tl]
  | k + 1, x => by
    rw [tl, List.mem_append, tl_mem ts k x]
    constructor
    · rintro (⟨i, h1, h2, h3⟩ | h)
      · exact ⟨i, by omega, h2, h3⟩
      · split at h
        · simp at h; exact ⟨k, by omega, h.symm, by assumption⟩
        · simp at h
    · rintro ⟨i, h1, h2, h3⟩
      by_cases hk : i = k
      · subst hk; right; rw [if_pos h3]; simp [h2]
      · left; exact ⟨i, by omega, h2, h3⟩

theorem getD_get (ts : List Rd.Tk) (i : Nat) (h : i < ts.length) : ts.getD i ⟨0, ⟨#[]⟩, 0⟩ = ts[i] := by
  rw [List.getD_eq_getElem?_getD, List.getElem?_eq_getElem h]; rfl

/-- append of so many tokens onto a row that is there, as a step of a region that draws its order -/
theorem step_ap {ops : Array Oper} {o : Oper} {a : Act} {w : World} {K : Act → World → Prop} {Q : Exit → Act → World → Prop} {E : Prop} (hgd : o.guard = none) (s x : Operand)
    (ho : o.op = .call { callee := .builtin .append, args := #[s, x], argTypes := #[22, 22] }) (base g0 n cap0 : Nat) (xs : List Value) (hs : a.eval s = .slice (some ⟨g0, 0, none⟩) n cap0)
    (hown : w.ownsRow base 24 3 (.slice (some ⟨g0, 0, none⟩) n cap0) n xs) (ad : Addr) (m c : Nat) (news : List Value) (hx : a.eval x = .slice (some ad) m c) (hl : news.length = m * 3)
    (hnews : ∀ j u, news[j]? = some u → w.cell? (ad.add j) = some u) (h1 : ∀ u ∈ news, u.oneCell' = true) (hb : n + m ≤ 2000) (hbase : base ≤ w.heap.size)
    (h : ∀ g cap w', w'.ownsRow base 24 3 (.slice (some ⟨g, 0, none⟩) (n + m) cap) (n + m) (xs ++ news) → w.grownBy w' (some g0) → (g = g0 ∨ g = w.heap.size) → K (a.put o.dst (.slice (some ⟨g, 0, none⟩) (n + m) cap)) w') :
    if Region.wanted o (yielded ops a.tmps) = true then Oper.wp Try.prog o a w K Q else E := by
  have hw : Region.wanted o (yielded ops a.tmps) = true := by simp [Region.wanted, hgd]
  rw [if_pos hw]
  obtain ⟨iA, hi, hz0, hz1, hz2⟩ := info_parts Try.infoTk
  rcases Nat.eq_zero_or_pos m with hm | hm
  · have hcap : n + m ≤ cap0 := by
      rcases hown.2 with ⟨e, _⟩ | ⟨g, cap, cur, e, _, _, hle, _⟩
      · cases e
      · cases e; omega
    exact wp_append_own_spare w s x 22 ho base 24 iA 3 Try.underlying22 hi hz1 g0 n cap0 xs hs hown ad m c news hx hl hnews h1 hcap fun w' h2 h3 => h g0 cap0 w' h2 h3 (.inl rfl)
  · exact wp_append_lies _ s x 22 ho base 24 iA _ 3 32 Try.underlying22 hi hz0 hz1 hz2 rfl (by decide) _ n xs hs hown ad m c news hx hl hnews h1 hm (by unfold maxLen; omega) (by omega) hbase _ rfl
      (fun g cap w' h2 h3 h4 _ => h g cap w' h2 h3 (h4.imp (fun e => by simpa [Value.ownBlock] using e.symm) id))

theorem look0 (w : World) (o : Obj) : (w.alloc o).heap[w.heap.size]? = some o := heap_alloc_new w o
theorem look1 (w : World) (o1 o2 : Obj) : ((w.alloc o1).alloc o2).heap[w.heap.size + 1]? = some o2 := by have := heap_alloc_new (w.alloc o1) o2; simpa using this
theorem look1' (w : World) (o1 o2 : Obj) : ((w.alloc o1).alloc o2).heap[w.heap.size]? = some o1 := by rw [Below.heap_alloc _ _ _ (by simp)]; exact heap_alloc_new w o1
theorem look2 (w : World) (o1 o2 o3 : Obj) : (((w.alloc o1).alloc o2).alloc o3).heap[w.heap.size + 1 + 1]? = some o3 := by have := heap_alloc_new ((w.alloc o1).alloc o2) o3; simpa using this
theorem look2' (w : World) (o1 o2 o3 : Obj) : (((w.alloc o1).alloc o2).alloc o3).heap[w.heap.size + 1]? = some o2 := by rw [Below.heap_alloc _ _ _ (by simp)]; exact look1 w o1 o2
theorem look2'' (w : World) (o1 o2 o3 : Obj) : (((w.alloc o1).alloc o2).alloc o3).heap[w.heap.size]? = some o1 := by rw [Below.heap_alloc _ _ _ (by simp; omega)]; exact look1' w o1 o2

theorem cells_two6 {w : World} {b : Nat} {x y : Value} {t : TypeId} (h : w.heap[b]? = some (.cells #[x, y] t (0, 0))) : w.cell? ⟨b, 0, none⟩ = some x ∧ w.cell? ⟨b, 1, none⟩ = some y := by simp [World.cell?, h]
theorem frozen_two6 {w : World} {b : Nat} {x y : Value} {t : TypeId} (h : w.heap[b]? = some (.cells #[x, y] t (0, 0))) : w.frozen? ⟨b, 0, none⟩ = false ∧ w.frozen? ⟨b, 1, none⟩ = false := by simp [World.frozen?, h]

theorem own0 {w : World} {base e : Nat} (h : w.heap[e]? = some (.cells #[] 24 (0, 0))) (hb : base ≤ e) : w.ownsRow base 24 3 (.slice (some ⟨e, 0, none⟩) 0 0) 0 [] :=
  ⟨rfl, .inr ⟨e, 0, #[], rfl, hb, h, Nat.le_refl _, Nat.zero_le _, rfl, rfl⟩⟩

theorem keep3 {w6 : World} {G e : Nat} {u v p q r : Value} (hne : e < G) (h0 : w6.cell? ⟨e, 0, none⟩ = some p) (h1 : w6.cell? ⟨e, 1, none⟩ = some q) (h2 : w6.cell? ⟨e, 2, none⟩ = some r) :
    ((w6.setCell ⟨G, 0, none⟩ u).setCell ⟨G, 1, none⟩ v).cell? ⟨e, 0, none⟩ = some p ∧ ((w6.setCell ⟨G, 0, none⟩ u).setCell ⟨G, 1, none⟩ v).cell? ⟨e, 1, none⟩ = some q ∧ ((w6.setCell ⟨G, 0, none⟩ u).setCell ⟨G, 1, none⟩ v).cell? ⟨e, 2, none⟩ = some r := by
  have hn : G ≠ e := by omega
  refine ⟨?_, ?_, ?_⟩ <;> rw [World.cell?_setCell_far _ _ _ _ hn, World.cell?_setCell_far _ _ _ _ hn] <;> assumption

theorem memTake (bs : List Nat) (D j : Nat) (h : j < bs.length) : decide (D ∈ bs.take (j + 1)) = (decide (D ∈ bs.take j) || decide (bs[j] = D)) := by
  rw [Bool.eq_iff_iff]
  simp only [List.take_succ_eq_append_getElem h, List.mem_append, List.mem_singleton, decide_eq_true_eq, Bool.or_eq_true]
  rw [eq_comm (a := D)]

theorem keepA {wr w' : World} {e : Nat} {p q r : Value} (hB : Below wr.heap.size wr w') (h0 : wr.cell? ⟨e, 0, none⟩ = some p) (h1 : wr.cell? ⟨e, 1, none⟩ = some q) (h2 : wr.cell? ⟨e, 2, none⟩ = some r) :
    w'.cell? ⟨e, 0, none⟩ = some p ∧ w'.cell? ⟨e, 1, none⟩ = some q ∧ w'.cell? ⟨e, 2, none⟩ = some r := ⟨cell_later hB h0, cell_later hB h1, cell_later hB h2⟩

theorem leafA {wr w6 : World} (hB : Below wr.heap.size wr w6) (x y : Value) (t : TypeId) : w6.heap.size < (w6.alloc (Obj.cells #[x, y] t)).heap.size ∧ (w6.alloc (Obj.cells #[x, y] t)).cell? ⟨w6.heap.size, 0, none⟩ = some x ∧
    (w6.alloc (Obj.cells #[x, y] t)).cell? ⟨w6.heap.size, 1, none⟩ = some y ∧ Below wr.heap.size wr (w6.alloc (Obj.cells #[x, y] t)) :=
  ⟨by simp, by simp [go_sem], by simp [go_sem], hB.alloc hB.size _⟩

theorem leafB {wr w6 : World} (hB : Below wr.heap.size wr w6) {G : Nat} {a b : Value} {t : TypeId} (h : w6.heap[G]? = some (.cells #[a, b] t (0, 0))) (hG : wr.heap.size ≤ G) (x y : Value) :
    G < ((w6.setCell ⟨G, 0, none⟩ x).setCell ⟨G, 1, none⟩ y).heap.size ∧ ((w6.setCell ⟨G, 0, none⟩ x).setCell ⟨G, 1, none⟩ y).cell? ⟨G, 0, none⟩ = some x ∧ ((w6.setCell ⟨G, 0, none⟩ x).setCell ⟨G, 1, none⟩ y).cell? ⟨G, 1, none⟩ = some y ∧
    Below wr.heap.size wr ((w6.setCell ⟨G, 0, none⟩ x).setCell ⟨G, 1, none⟩ y) := by
  have hl : G < w6.heap.size := by
    rcases Nat.lt_or_ge G w6.heap.size with h' | h'
    · exact h'
    · rw [Array.getElem?_eq_none h'] at h; cases h
  obtain ⟨c0, c1⟩ := cells_two6 h
  have n01 : (⟨G, 0, none⟩ : Addr) ≠ ⟨G, 1, none⟩ := by simp
  have n10 : (⟨G, 1, none⟩ : Addr) ≠ ⟨G, 0, none⟩ := by simp
  refine ⟨by rw [size_setCell, size_setCell]; exact hl, ?_, ?_, (hB.setCell hG _).setCell hG _⟩
  · rw [World.cell?_setCell_other _ _ _ _ n10]; exact World.cell?_setCell_same _ _ _ c0
  · refine World.cell?_setCell_same _ _ _ (u := b) ?_
    rw [World.cell?_setCell_other _ _ _ _ n01]; exact c1

/-- numbers as cells -/
def natCells (l : List Nat) : List Value := l.map (fun n => .int .i64 (n : Nat))

set_option maxHeartbeats 1600000 in
theorem readStops_out (ao : Option Addr) (c : Nat) (ts : List Rd.Tk) (x : Rd.Tk) (n : Int) (w : World) (hT : TksAt w.heap.size w ao ts) (hc : ts.length ≤ c ∧ c ≤ maxLen) (hm : ∀ t ∈ ts, t.text.size ≤ maxLen) (hx : x.text.size ≤ maxLen)
    (h : fair ts = false ∨ (fair ts = true ∧ (500 < x.text.size ∨ (x.text.size ≤ 500 ∧ x.kind = 1) ∨ (x.text.size ≤ 500 ∧ x.kind ≠ 1 ∧ ts.length = 0)))) :
    Calls Try.prog 3 #[.slice ao ts.length c, .agg #[.int .i64 x.kind, .string x.text, .int .i64 x.pos], .int .u8 n] w fun e w' => e = .returned (.bool true) ∧ Below w.heap.size w w' := by
  have hlm : ts.length ≤ maxLen := Nat.le_trans hc.1 hc.2
  have HT : Hid (TksAt w.heap.size w ao ts) := hT
  have HM : Hid (∀ t ∈ ts, t.text.size ≤ maxLen) := hm
  clear hT hc hm
  obtain ⟨xk, xx, xp⟩ := x
  simp only at hx h ⊢
  unfold maxLen at hx
  have HB : Hid (Below w.heap.size w (w.alloc (Obj.cells #[Value.int IntKind.i64 xk, Value.string xx, Value.int IntKind.i64 xp] 24))) := (Below.refl _ w).alloc (Nat.le_refl _) _
  have fin : Hid (∀ w6 : World, Below (w.alloc (Obj.cells #[Value.int IntKind.i64 xk, Value.string xx, Value.int IntKind.i64 xp] 24)).heap.size (w.alloc (Obj.cells #[Value.int IntKind.i64 xk, Value.string xx, Value.int IntKind.i64 xp] 24)) w6 → Below w.heap.size w w6) := fun w6 hb => HB.out.trans (hb.mono HB.out.size)
  have HT' : Hid _ := fun r (hr : fair ts = r) => fair_is r ao c ts (w.alloc (Obj.cells #[Value.int IntKind.i64 xk, Value.string xx, Value.int IntKind.i64 xp] 24)) hlm HM.out (HT.out.later HB.out).size hr
  rcases h with h1 | ⟨h1, h2 | ⟨h2, h3⟩ | ⟨h2, h3, h4⟩⟩
  · go_enter Try.func3, Try.ntmps3
    go_wp2_with (first | (go_at_call 9; refine (HT'.out _ h1).mono ?_; rintro e w1 ⟨rfl, rfl⟩) | (go_at_call 10; refine (rwakes_any _).mono ?_; rintro e w1 ⟨rfl, hb⟩))
    go_ret
    exact ⟨rfl, fin.out _ hb⟩
  · have h2' : (500 : Int) < (xx.size : Int) := by omega
    go_enter Try.func3, Try.ntmps3
    go_wp2_with (first | (go_at_call 9; refine (HT'.out _ h1).mono ?_; rintro e w1 ⟨rfl, rfl⟩) | (go_at_call 10; refine (rwakes_any _).mono ?_; rintro e w1 ⟨rfl, hb⟩))
    go_ret
    exact ⟨rfl, fin.out _ hb⟩
  · have h3d : (xk == 1) = true := by simp [h3]
    clear h3
    have h2d : decide ((500 : Int) < (xx.size : Int)) = false := by simp; omega
    go_enter Try.func3, Try.ntmps3
    go_wp2_with (first | (go_at_call 9; refine (HT'.out _ h1).mono ?_; rintro e w1 ⟨rfl, rfl⟩) | (go_at_call 10; refine (rwakes_any _).mono ?_; rintro e w1 ⟨rfl, hb⟩))
    go_ret
    exact ⟨rfl, fin.out _ hb⟩
  · have h2d : decide ((500 : Int) < (xx.size : Int)) = false := by simp; omega
    have h3d : (xk == 1) = false := by simp [h3]
    have h4d : ((ts.length : Int) == 0) = true := by simp [h4]
    clear h4 h3
    go_enter Try.func3, Try.ntmps3
    go_wp2_with (first | (go_at_call 9; refine (HT'.out _ h1).mono ?_; rintro e w1 ⟨rfl, rfl⟩) | (go_at_call 10; refine (rwakes_any _).mono ?_; rintro e w1 ⟨rfl, hb⟩))
    go_ret
    exact ⟨rfl, fin.out _ hb⟩
end Go.Proofs.Ytnbniaijholimaa
