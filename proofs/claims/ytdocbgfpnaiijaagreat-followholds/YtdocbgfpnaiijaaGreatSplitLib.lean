/-
  A region that draws its order, parted: either the one of two operations comes first or the other one does; in each half the later one may be taken to wait for the earlier one.
-/
import Derived.Test.YtdocbgfpnaiijaaGreatOwnLib2
namespace Go.Proofs.YtdocbgfpnaiijaaGreat
open Go.RowKit

/-- the operation j waits for the operation i, too -/
def addEdge : List Oper → Nat → Nat → List Oper
  | [], _, _ => []
  | o :: r, 0, i => { o with after := o.after.push { on := i, ground := .data } } :: r
  | o :: r, j + 1, i => o :: addEdge r j i
def edged (i : Nat) (o : Oper) : Oper := { o with after := o.after.push { on := i, ground := .data } }

theorem addEdge_len : ∀ (l : List Oper) (j i : Nat), (addEdge l j i).length = l.length
  | [], _, _ => rfl
  | _ :: _, 0, _ => rfl
  | _ :: r, j + 1, i => by simp [addEdge, addEdge_len r j i]
theorem addEdge_get : ∀ (l : List Oper) (j i k : Nat), (addEdge l j i)[k]? = (l[k]?).map fun o => if k = j then edged i o else o
  | [], _, _, _ => by simp [addEdge]
  | o :: r, 0, i, 0 => by simp [addEdge, edged]
  | o :: r, 0, i, k + 1 => by simp [addEdge]
  | o :: r, j + 1, i, 0 => by simp [addEdge]
  | o :: r, j + 1, i, k + 1 => by
    simp only [addEdge, List.getElem?_cons_succ, addEdge_get r j i k]
    congr 1
    funext o
    by_cases e : k = j
    · simp [e]
    · simp [e]
theorem edged_wp (i : Nat) (o : Oper) (P : Program) (a : Act) (w : World) (K : Act → World → Prop) (Q : Exit → Act → World → Prop) : (edged i o).wp P a w K Q = o.wp P a w K Q := rfl
theorem edged_asks (i : Nat) (o : Oper) (P : Program) (a : Act) (w : World) : (edged i o).asks P a w = o.asks P a w := rfl
theorem yielded_edge (l : List Oper) (j i : Nat) (ts : Array Value) : yielded (addEdge l j i).toArray ts = yielded l.toArray ts := by
  funext k
  unfold yielded
  rw [List.getElem?_toArray, List.getElem?_toArray, addEdge_get]
  cases l[k]? with
  | none => rfl
  | some o =>
    have hd : (if k = j then edged i o else o).dst = o.dst := by by_cases e : k = j <;> simp [e, edged]
    simp only [Option.map_some, Option.bind_some, hd]
theorem wpOp_edge {P : Program} {Q : Exit → Act → World → Prop} (l : List Oper) (j i k : Nat) (K : Act → World → Prop) (a : Act) (w : World) : wpOp P (addEdge l j i).toArray Q k K a w = wpOp P l.toArray Q k K a w := by
  unfold wpOp
  rw [yielded_edge, List.getElem?_toArray, List.getElem?_toArray, addEdge_get]
  cases l[k]? with
  | none => rfl
  | some o =>
    simp only [Option.map_some]
    by_cases e : k = j
    · rw [if_pos e]; rfl
    · rw [if_neg e]
theorem wpOps_edge {P : Program} {Q : Exit → Act → World → Prop} (l : List Oper) (j i : Nat) : ∀ (ks : List Nat) (a : Act) (w : World), wpOps P (addEdge l j i).toArray Q ks a w = wpOps P l.toArray Q ks a w
  | [], _, _ => rfl
  | k :: ks, a, w => by
    rw [wpOps_cons, wpOps_cons, wpOp_edge]
    congr 1
    funext a' w'
    exact wpOps_edge l j i ks a' w'
theorem ready_edge (l : List Oper) (j i : Nat) (listed : Array Bool) (k : Nat) : k ∈ Region.ready .any (addEdge l j i).toArray listed ↔ k ∈ Region.ready .any l.toArray listed ∧ (k = j → listed.getD i false = true) := by
  unfold Region.ready
  simp only [List.mem_filter, List.mem_range, List.size_toArray, addEdge_len, List.getElem?_toArray, addEdge_get, Bool.and_eq_true, Option.map_map]
  cases h : l[k]? with
  | none => simp
  | some o =>
    simp only [Option.map_some, Option.getD_some, Function.comp_apply]
    by_cases e : k = j
    · simp only [e, if_true, edged, Array.all_push, Bool.and_eq_true, true_implies]
      have hb : Region.binds .any { on := i, ground := .data } = true := rfl
      simp only [hb, Bool.not_true, Bool.false_or]
      constructor
      · rintro ⟨h1, h2, h3, h4⟩; exact ⟨⟨h1, h2, h3⟩, h4⟩
      · rintro ⟨⟨h1, h2, h3⟩, h4⟩; exact ⟨h1, h2, h3, h4⟩
    · simp [e]

/-- an order in which they may come -/
def Lin (ops : Array Oper) : Nat → Array Bool → List Nat → Prop
  | 0, _, l => l = []
  | fuel + 1, listed, l => (Region.ready .any ops listed = [] ∧ l = []) ∨ ∃ i ∈ Region.ready .any ops listed, ∃ l', l = i :: l' ∧ Lin ops fuel (listed.setIfInBounds i true) l'
theorem lin_go (ops : Array Oper) : ∀ (fuel t : Nat) (listed : Array Bool), Lin ops fuel listed (Region.linearise.go .any ops fuel t listed [])
  | 0, t, listed => by simp [Lin, Region.linearise.go]
  | fuel + 1, t, listed => by
    unfold Lin
    have e : Region.linearise.go .any ops (fuel + 1) t listed [] = match (Region.ready .any ops listed)[t % (Region.ready .any ops listed).length]? with
      | some i => Region.linearise.go .any ops fuel (t / (Region.ready .any ops listed).length) (listed.setIfInBounds i true) [i]
      | none => [] := rfl
    rw [e]
    split
    · rename_i i hi
      rw [linearise_go_acc]
      exact .inr ⟨i, List.mem_of_getElem? hi, _, rfl, lin_go ops fuel _ _⟩
    · rename_i hn
      refine .inl ⟨?_, rfl⟩
      rw [List.getElem?_eq_none_iff] at hn
      cases hr : Region.ready .any ops listed with
      | nil => rfl
      | cons x r =>
        rw [hr] at hn
        have := Nat.mod_lt t (show 0 < (x :: r).length by simp)
        omega
theorem lin_wp {P : Program} {Q : Exit → Act → World → Prop} {ops : Array Oper} : ∀ {fuel : Nat} {listed : Array Bool} {l : List Nat} {a : Act} {w : World}, wpAny P .any ops Q fuel listed a w → Lin ops fuel listed l → wpOps P ops Q l a w
  | 0, _, _, _, _, h, hl => by
    unfold Lin at hl; subst hl
    exact h.2
  | fuel + 1, listed, l, a, w, h, hl => by
    unfold Lin at hl
    rcases hl with ⟨hr, rfl⟩ | ⟨i, hi, l', rfl, hl⟩
    · exact h.1 hr
    · rw [wpOps_cons]
      exact wpOp_mono (fun a' w' h' => lin_wp h' hl) (h.2 i hi)
theorem getD_set_true {listed : Array Bool} {i k : Nat} (h : listed.getD i false = true) : (listed.setIfInBounds k true).getD i false = true := by
  simp only [Array.getD_eq_getD_getElem?, Array.getElem?_setIfInBounds] at h ⊢
  by_cases e : k = i
  · subst e
    by_cases hk : k < listed.size
    · simp [hk]
    · simp [hk] at h
  · simp [e]; simpa using h
theorem lin_one {l : List Oper} {j i : Nat} : ∀ {fuel : Nat} {listed : Array Bool} {ks : List Nat}, listed.getD i false = true → Lin l.toArray fuel listed ks → Lin (addEdge l j i).toArray fuel listed ks
  | 0, _, _, _, h => h
  | fuel + 1, listed, ks, hi, h => by
    unfold Lin at h ⊢
    rcases h with ⟨hr, rfl⟩ | ⟨k, hk, l', rfl, hl⟩
    · refine .inl ⟨List.eq_nil_iff_forall_not_mem.2 fun k hk => ?_, rfl⟩
      have := ((ready_edge l j i listed k).1 hk).1
      rw [hr] at this; simp at this
    · exact .inr ⟨k, (ready_edge l j i listed k).2 ⟨hk, fun _ => hi⟩, l', rfl, lin_one (getD_set_true hi) hl⟩
theorem lin_two {l : List Oper} {i j : Nat} (hij : i ≠ j) (hi : i < l.length) (hj : j < l.length) : ∀ {fuel : Nat} {listed : Array Bool} {ks : List Nat}, listed.size = l.length → Lin l.toArray fuel listed ks → Lin (addEdge l j i).toArray fuel listed ks ∨ Lin (addEdge l i j).toArray fuel listed ks
  | 0, _, _, _, h => .inl h
  | fuel + 1, listed, ks, hs, h => by
    unfold Lin at h ⊢
    rcases h with ⟨hr, rfl⟩ | ⟨k, hk, l', rfl, hl⟩
    · refine .inl (.inl ⟨List.eq_nil_iff_forall_not_mem.2 fun k hk => ?_, rfl⟩)
      have := ((ready_edge l j i listed k).1 hk).1
      rw [hr] at this; simp at this
    · by_cases e1 : k = i
      · subst e1
        refine .inl (.inr ⟨k, (ready_edge l j k listed k).2 ⟨hk, fun e => absurd e hij⟩, l', rfl, lin_one ?_ hl⟩)
        have : k < listed.size := by omega
        simp [this]
      · by_cases e2 : k = j
        · subst e2
          refine .inr (.inr ⟨k, (ready_edge l i k listed k).2 ⟨hk, fun e => absurd e.symm hij⟩, l', rfl, lin_one ?_ hl⟩)
          have : k < listed.size := by omega
          simp [this]
        · rcases lin_two hij hi hj (listed := listed.setIfInBounds k true) (by simpa using hs) hl with h | h
          · exact .inl (.inr ⟨k, (ready_edge l j i listed k).2 ⟨hk, fun e => absurd e e2⟩, l', rfl, h⟩)
          · exact .inr (.inr ⟨k, (ready_edge l i j listed k).2 ⟨hk, fun e => absurd e e1⟩, l', rfl, h⟩)

/-! two neighbours change their places -/
def sig (k x : Nat) : Nat := if x = k then k + 1 else if x = k + 1 then k else x
theorem sig_sig (k x : Nat) : sig k (sig k x) = x := by
  unfold sig
  by_cases h1 : x = k
  · subst h1; simp
  · by_cases h2 : x = k + 1
    · subst h2; simp
    · simp [h1, h2]
def mapOn (k : Nat) (o : Oper) : Oper := { o with after := o.after.map fun e => { e with on := sig k e.on } }
def swp : List Oper → Nat → List Oper
  | x :: y :: r, 0 => y :: x :: r
  | x :: r, k + 1 => x :: swp r k
  | l, _ => l
def swapAt (l : List Oper) (k : Nat) : List Oper := (swp l k).map (mapOn k)
theorem swp_len : ∀ (l : List Oper) (k : Nat), (swp l k).length = l.length
  | [], 0 => rfl
  | [], _ + 1 => rfl
  | [_], 0 => rfl
  | _ :: _ :: _, 0 => rfl
  | x :: r, k + 1 => by simp [swp, swp_len r k]
theorem swp_get : ∀ (l : List Oper) (k : Nat), k + 1 < l.length → ∀ x, (swp l k)[sig k x]? = l[x]?
  | [], _, h, _ => by simp at h
  | [_], 0, h, _ => by simp at h
  | a :: b :: r, 0, _, x => by
    unfold sig
    by_cases h1 : x = 0
    · subst h1; simp [swp]
    · by_cases h2 : x = 1
      · subst h2; simp [swp]
      · obtain ⟨y, rfl⟩ : ∃ y, x = y + 2 := ⟨x - 2, by omega⟩
        simp [swp]
  | a :: r, k + 1, h, x => by
    have h' : k + 1 < r.length := by simpa using h
    cases x with
    | zero => simp [sig, swp]
    | succ x =>
      have e : sig (k + 1) (x + 1) = sig k x + 1 := by
        unfold sig
        by_cases h1 : x = k
        · simp [h1]
        · by_cases h2 : x = k + 1
          · simp [h2]
          · simp [h1, h2]
      rw [e]
      simp only [swp, List.getElem?_cons_succ]
      exact swp_get r k h' x
theorem swapAt_len (l : List Oper) (k : Nat) : (swapAt l k).length = l.length := by simp [swapAt, swp_len]
theorem swapAt_get {l : List Oper} {k : Nat} (h : k + 1 < l.length) (x : Nat) : (swapAt l k)[sig k x]? = (l[x]?).map (mapOn k) := by
  unfold swapAt; rw [List.getElem?_map, swp_get l k h x]
theorem wpOp_swap {P : Program} {Q : Exit → Act → World → Prop} {l : List Oper} {k : Nat} (h : k + 1 < l.length) (hg : ∀ o ∈ l, o.guard = none) (x : Nat) (K : Act → World → Prop) (a : Act) (w : World) : wpOp P (swapAt l k).toArray Q (sig k x) K a w = wpOp P l.toArray Q x K a w := by
  unfold wpOp
  rw [List.getElem?_toArray, List.getElem?_toArray, swapAt_get h]
  cases hx : l[x]? with
  | none => rfl
  | some o =>
    have h0 := hg o (List.mem_of_getElem? hx)
    have w1 : ∀ y, Region.wanted o y = true := fun y => by unfold Region.wanted; rw [h0]
    have w2 : ∀ y, Region.wanted (mapOn k o) y = true := fun y => by
      unfold Region.wanted mapOn; simp only [h0]
    simp only [Option.map_some, w1, w2, if_true]
    rfl
theorem wpOps_swap {P : Program} {Q : Exit → Act → World → Prop} {l : List Oper} {k : Nat} (h : k + 1 < l.length) (hg : ∀ o ∈ l, o.guard = none) : ∀ (ks : List Nat) (a : Act) (w : World), wpOps P (swapAt l k).toArray Q (ks.map (sig k)) a w = wpOps P l.toArray Q ks a w
  | [], _, _ => rfl
  | x :: ks, a, w => by
    rw [List.map_cons, wpOps_cons, wpOps_cons, wpOp_swap h hg]
    congr 1
    funext a' w'
    exact wpOps_swap h hg ks a' w'
/-- what is listed, under the other numbers -/
def Same (k : Nat) (listed listed' : Array Bool) : Prop := listed'.size = listed.size ∧ ∀ x d, listed'.getD (sig k x) d = listed.getD x d
theorem sig_lt {k x n : Nat} (h : k + 1 < n) : sig k x < n ↔ x < n := by
  unfold sig
  by_cases h1 : x = k
  · subst h1; simp; omega
  · by_cases h2 : x = k + 1
    · subst h2; simp; omega
    · simp [h1, h2]
theorem Same.set {k : Nat} {listed listed' : Array Bool} (h : Same k listed listed') (hk : k + 1 < listed.size) (x : Nat) : Same k (listed.setIfInBounds x true) (listed'.setIfInBounds (sig k x) true) := by
  refine ⟨by simp [h.1], fun y d => ?_⟩
  have h2 := h.2 y d
  simp only [Array.getD_eq_getD_getElem?, Array.getElem?_setIfInBounds] at h2 ⊢
  by_cases e : x = y
  · subst e
    have := sig_lt (x := x) hk
    by_cases hx : x < listed.size
    · simp [hx, h.1, this.2 hx]
    · have : ¬ sig k x < listed.size := fun q => hx (this.1 q)
      simp [hx, h.1, this]
  · have : ¬ sig k x = sig k y := fun q => e (by rw [← sig_sig k x, q, sig_sig])
    simp only [e, this, if_false]
    exact h2
theorem ready_swap {l : List Oper} {k : Nat} (h : k + 1 < l.length) {listed listed' : Array Bool} (hs : Same k listed listed') (x : Nat) : sig k x ∈ Region.ready .any (swapAt l k).toArray listed' ↔ x ∈ Region.ready .any l.toArray listed := by
  unfold Region.ready
  simp only [List.mem_filter, List.mem_range, List.size_toArray, swapAt_len, List.getElem?_toArray, swapAt_get h, Bool.and_eq_true, Option.map_map, sig_lt h, hs.2]
  cases l[x]? with
  | none => simp
  | some o =>
    simp only [Option.map_some, Option.getD_some, Function.comp_apply, mapOn, Array.all_map]
    have e : (fun a : Edge => !Region.binds .any { on := sig k a.on, ground := a.ground } || listed'.getD (sig k a.on) false) = fun e : Edge => !Region.binds .any e || listed.getD e.on false := by
      funext e
      rw [hs.2]
      rfl
    rw [e]
theorem lin_swap {l : List Oper} {k : Nat} (h : k + 1 < l.length) : ∀ {fuel : Nat} {listed listed' : Array Bool} {ks : List Nat}, listed.size = l.length → Same k listed listed' → Lin l.toArray fuel listed ks → Lin (swapAt l k).toArray fuel listed' (ks.map (sig k))
  | 0, _, _, _, _, _, hl => by
    unfold Lin at hl ⊢; subst hl; rfl
  | fuel + 1, listed, listed', ks, hsz, hs, hl => by
    unfold Lin at hl ⊢
    rcases hl with ⟨hr, rfl⟩ | ⟨x, hx, l', rfl, hl⟩
    · refine .inl ⟨List.eq_nil_iff_forall_not_mem.2 fun y hy => ?_, rfl⟩
      rw [← sig_sig k y] at hy
      have := (ready_swap h hs (sig k y)).1 hy
      rw [hr] at this; simp at this
    · exact .inr ⟨sig k x, (ready_swap h hs x).2 hx, l'.map (sig k), rfl, lin_swap h (by simpa using hsz) (hs.set (by omega) x) hl⟩
theorem same_start (k n : Nat) (h : k + 1 < n) : Same k (Array.replicate n false) (Array.replicate n false) := by
  refine ⟨rfl, fun x d => ?_⟩
  have := sig_lt (x := x) h
  simp only [Array.getD_eq_getD_getElem?, Array.getElem?_replicate]
  by_cases hx : x < n
  · simp [hx, this.2 hx]
  · have : ¬ sig k x < n := fun q => hx (this.1 q)
    simp [hx, this]

/-- either i comes ahead of j or j ahead of i -/
theorem wp_region_split {P : Program} {id : Nat} {Q : Exit → Act → World → Prop} {a : Act} {w : World} {l : List Oper} (i j : Nat) (hij : i ≠ j) (hi : i < l.length) (hj : j < l.length) (hm : P.follows .mixedOrders = true)
    (h1 : wpAny P .any (addEdge l j i).toArray Q l.length (Array.replicate l.length false) a w.drew) (h2 : wpAny P .any (addEdge l i j).toArray Q l.length (Array.replicate l.length false) a w.drew) : (Code.region id l.toArray true).wp P Q a w := by
  refine wp_region_draw fun t => ?_
  simp only [Region.schedule, hm, Bool.true_or, if_true]
  have e : Region.linearise .any l.toArray t = Region.linearise.go .any l.toArray l.length t (Array.replicate l.length false) [] := by
    unfold Region.linearise; simp only [List.size_toArray]
  rw [e]
  rcases lin_two hij hi hj (by simp) (lin_go l.toArray l.length t (Array.replicate l.length false)) with h | h
  · have := lin_wp h1 h
    rw [wpOps_edge] at this; exact this
  · have := lin_wp h2 h
    rw [wpOps_edge] at this; exact this

/-- the same, the two of them two places apart; where the later one comes first, it is put ahead -/
theorem wp_region_split2 {P : Program} {id : Nat} {Q : Exit → Act → World → Prop} {a : Act} {w : World} {l : List Oper} (i : Nat) (hi : i + 2 < l.length) (hm : P.follows .mixedOrders = true) (hg : l.all (fun o => o.guard.isNone) = true)
    (h1 : wpAny P .any (addEdge l (i + 2) i).toArray Q l.length (Array.replicate l.length false) a w.drew) (h2 : wpAny P .any (swapAt (swapAt (addEdge l i (i + 2)) i) (i + 1)).toArray Q l.length (Array.replicate l.length false) a w.drew) : (Code.region id l.toArray true).wp P Q a w := by
  refine wp_region_draw fun t => ?_
  simp only [Region.schedule, hm, Bool.true_or, if_true]
  have e : Region.linearise .any l.toArray t = Region.linearise.go .any l.toArray l.length t (Array.replicate l.length false) [] := by
    unfold Region.linearise; simp only [List.size_toArray]
  rw [e]
  have hg0 : ∀ o ∈ l, o.guard = none := fun o ho => by
    have := List.all_eq_true.1 hg o ho
    simpa using this
  have hg1 : ∀ o ∈ addEdge l i (i + 2), o.guard = none := fun o ho => by
    obtain ⟨k, hk⟩ := List.mem_iff_getElem?.1 ho
    rw [addEdge_get] at hk
    cases h : l[k]? with
    | none => rw [h] at hk; simp at hk
    | some o' =>
      rw [h] at hk
      simp only [Option.map_some, Option.some.injEq] at hk
      have h0 := hg0 o' (List.mem_of_getElem? h)
      rw [← hk]
      by_cases e : k = i
      · rw [if_pos e]; exact h0
      · rw [if_neg e]; exact h0
  have hg2 : ∀ o ∈ swapAt (addEdge l i (i + 2)) i, o.guard = none := fun o ho => by
    unfold swapAt at ho
    obtain ⟨o', ho', rfl⟩ := List.mem_map.1 ho
    obtain ⟨k, hk⟩ := List.mem_iff_getElem?.1 ho'
    rw [← sig_sig i k, swp_get _ _ (by rw [addEdge_len]; omega)] at hk
    exact hg1 o' (List.mem_of_getElem? hk)
  have hl1 : i + 1 < (addEdge l i (i + 2)).length := by rw [addEdge_len]; omega
  have hl2 : (i + 1) + 1 < (swapAt (addEdge l i (i + 2)) i).length := by rw [swapAt_len, addEdge_len]; omega
  rcases lin_two (i := i) (j := i + 2) (by omega) (by omega) hi (by simp) (lin_go l.toArray l.length t (Array.replicate l.length false)) with h | h
  · have := lin_wp h1 h
    rw [wpOps_edge] at this; exact this
  · have h3 := lin_swap hl1 (by simp [addEdge_len]) (same_start i l.length (by omega)) h
    have h4 := lin_swap hl2 (by simp [swapAt_len, addEdge_len]) (same_start (i + 1) l.length (by omega)) h3
    have := lin_wp h2 h4
    rw [wpOps_swap hl2 hg2, wpOps_swap hl1 hg1, wpOps_edge] at this
    exact this

/-- the same, the two of them side by side -/
theorem wp_region_split1 {P : Program} {id : Nat} {Q : Exit → Act → World → Prop} {a : Act} {w : World} {l : List Oper} (i : Nat) (hi : i + 1 < l.length) (hm : P.follows .mixedOrders = true) (hg : l.all (fun o => o.guard.isNone) = true)
    (h1 : wpAny P .any (addEdge l (i + 1) i).toArray Q l.length (Array.replicate l.length false) a w.drew) (h2 : wpAny P .any (swapAt (addEdge l i (i + 1)) i).toArray Q l.length (Array.replicate l.length false) a w.drew) : (Code.region id l.toArray true).wp P Q a w := by
  refine wp_region_draw fun t => ?_
  simp only [Region.schedule, hm, Bool.true_or, if_true]
  have e : Region.linearise .any l.toArray t = Region.linearise.go .any l.toArray l.length t (Array.replicate l.length false) [] := by
    unfold Region.linearise; simp only [List.size_toArray]
  rw [e]
  have hg0 : ∀ o ∈ l, o.guard = none := fun o ho => by
    have := List.all_eq_true.1 hg o ho
    simpa using this
  have hg1 : ∀ o ∈ addEdge l i (i + 1), o.guard = none := fun o ho => by
    obtain ⟨k, hk⟩ := List.mem_iff_getElem?.1 ho
    rw [addEdge_get] at hk
    cases h : l[k]? with
    | none => rw [h] at hk; simp at hk
    | some o' =>
      rw [h] at hk
      simp only [Option.map_some, Option.some.injEq] at hk
      have h0 := hg0 o' (List.mem_of_getElem? h)
      rw [← hk]
      by_cases e : k = i
      · rw [if_pos e]; exact h0
      · rw [if_neg e]; exact h0
  have hl1 : i + 1 < (addEdge l i (i + 1)).length := by rw [addEdge_len]; omega
  rcases lin_two (i := i) (j := i + 1) (by omega) (by omega) hi (by simp) (lin_go l.toArray l.length t (Array.replicate l.length false)) with h | h
  · have := lin_wp h1 h
    rw [wpOps_edge] at this; exact this
  · have h3 := lin_swap hl1 (by simp [addEdge_len]) (same_start i l.length (by omega)) h
    have := lin_wp h2 h3
    rw [wpOps_swap hl1 hg1, wpOps_edge] at this
    exact this

theorem guard_edge {l : List Oper} (hg : ∀ o ∈ l, o.guard = none) (j i : Nat) : ∀ o ∈ addEdge l j i, o.guard = none := fun o ho => by
  obtain ⟨k, hk⟩ := List.mem_iff_getElem?.1 ho
  rw [addEdge_get] at hk
  cases h : l[k]? with
  | none => rw [h] at hk; simp at hk
  | some o' =>
    rw [h] at hk
    simp only [Option.map_some, Option.some.injEq] at hk
    have h0 := hg o' (List.mem_of_getElem? h)
    rw [← hk]
    by_cases e : k = j
    · rw [if_pos e]; exact h0
    · rw [if_neg e]; exact h0
/-- one operation that may stand ahead of, between or behind two others -/
theorem wp_region_split3 {P : Program} {id : Nat} {Q : Exit → Act → World → Prop} {a : Act} {w : World} {l : List Oper} (i : Nat) (hi : i + 2 < l.length) (hm : P.follows .mixedOrders = true) (hg : l.all (fun o => o.guard.isNone) = true)
    (h1 : wpAny P .any (addEdge (addEdge l (i + 2) (i + 1)) (i + 1) i).toArray Q l.length (Array.replicate l.length false) a w.drew)
    (h2 : wpAny P .any (swapAt (addEdge (addEdge l (i + 2) (i + 1)) i (i + 1)) i).toArray Q l.length (Array.replicate l.length false) a w.drew)
    (h3 : wpAny P .any (swapAt (addEdge l (i + 1) (i + 2)) (i + 1)).toArray Q l.length (Array.replicate l.length false) a w.drew) : (Code.region id l.toArray true).wp P Q a w := by
  refine wp_region_draw fun t => ?_
  simp only [Region.schedule, hm, Bool.true_or, if_true]
  have e : Region.linearise .any l.toArray t = Region.linearise.go .any l.toArray l.length t (Array.replicate l.length false) [] := by
    unfold Region.linearise; simp only [List.size_toArray]
  rw [e]
  have hg0 : ∀ o ∈ l, o.guard = none := fun o ho => by
    have := List.all_eq_true.1 hg o ho
    simpa using this
  rcases lin_two (i := i + 1) (j := i + 2) (by omega) (by omega) hi (by simp) (lin_go l.toArray l.length t (Array.replicate l.length false)) with h | h
  · rcases lin_two (l := addEdge l (i + 2) (i + 1)) (i := i) (j := i + 1) (by omega) (by rw [addEdge_len]; omega) (by rw [addEdge_len]; omega) (by simp [addEdge_len]) h with h | h
    · have := lin_wp h1 h
      rw [wpOps_edge, wpOps_edge] at this; exact this
    · have hl : i + 1 < (addEdge (addEdge l (i + 2) (i + 1)) i (i + 1)).length := by rw [addEdge_len, addEdge_len]; omega
      have h4 := lin_swap hl (by simp [addEdge_len]) (same_start i l.length (by omega)) h
      have := lin_wp h2 h4
      rw [wpOps_swap hl (guard_edge (guard_edge hg0 _ _) _ _), wpOps_edge, wpOps_edge] at this
      exact this
  · have hl : (i + 1) + 1 < (addEdge l (i + 1) (i + 2)).length := by rw [addEdge_len]; omega
    have h4 := lin_swap hl (by simp [addEdge_len]) (same_start (i + 1) l.length (by omega)) h
    have := lin_wp h3 h4
    rw [wpOps_swap hl (guard_edge hg0 _ _), wpOps_edge] at this
    exact this
end Go.Proofs.YtdocbgfpnaiijaaGreat
