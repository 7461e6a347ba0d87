/-
  The plain mathematics of the law FirstBegins: what is reached step by step, each to a symbol ahead of which all may be nothing; a search with a list.
-/
import Derived.Test.YtdjjconccneaiaaGreatFiMath
namespace Go.Proofs.YtdjjconccneaiaaGreat.Fi
open Go.Proofs.YtdjjconccneaiaaGreat.Gr Go.Proofs.YtdjjconccneaiaaGreat.Nl

/-- steps, each to a symbol that a rule may begin with -/
inductive Goes (rs : List Rl) (nl : List Bool) : Int → Int → Prop
  | here (s : Int) : Goes rs nl s s
  | on (r : Rl) (hr : r ∈ rs) (x : Int) (hx : x ∈ heads nl r.2) (t : Int) (h : Goes rs nl x t) : Goes rs nl r.1 t

theorem Goes.snoc {rs : List Rl} {nl : List Bool} {s y : Int} (h : Goes rs nl s y) : ∀ {r : Rl}, r ∈ rs → r.1 = y → ∀ {x : Int}, x ∈ heads nl r.2 → Goes rs nl s x := by
  induction h with
  | here s => intro r hr e x hx; subst e; exact .on r hr x hx x (.here x)
  | on r' hr' x' hx' t _ ih => intro r hr e x hx; exact .on r' hr' x' hx' x (ih hr e hx)
theorem beg_goes {rs : List Rl} {nl : List Bool} {T : Nat} {s t : Int} : Beg rs nl T s t ↔ Goes rs nl s t ∧ 0 ≤ t ∧ t < T := by
  constructor
  · intro h
    refine ⟨?_, h.term⟩
    induction h with
    | own t _ _ => exact .here t
    | up r hr x hx t _ ih => exact .on r hr x hx t ih
  · rintro ⟨h, h0, h1⟩
    induction h with
    | here s => exact .own s h0 h1
    | on r hr x hx t _ ih => exact .up r hr x hx t (ih h0 h1)

/-- amid the search: the list's first i have been looked at; of the i-th one the first r rules; of the r-th one the first k symbols -/
structure Bfs (n : Nat) (rs : List Rl) (nl : List Bool) (s : Int) (inn : List Bool) (l : List Int) (i r k : Nat) : Prop where
  len : inn.length = n
  cnt : l.length = Nl.cnt inn
  mem : ∀ x, isAt inn x = true ↔ x ∈ l
  start : s ∈ l
  sound : ∀ x ∈ l, Goes rs nl s x
  done : ∀ j (hj : j < l.length), j < i → ∀ q ∈ rs, q.1 = l[j] → ∀ x ∈ heads nl q.2, isAt inn x = true
  now : ∀ hi : i < l.length, (∀ q (hq : q < rs.length), q < r → rs[q].1 = l[i] → ∀ x ∈ heads nl rs[q].2, isAt inn x = true) ∧ ∀ hr : r < rs.length, rs[r].1 = l[i] → ∀ x ∈ rs[r].2.take k, isAt inn x = true

theorem Bfs.begin {n : Nat} {rs : List Rl} {nl : List Bool} {s : Int} (h0 : 0 ≤ s) (h1 : s < n) : Bfs n rs nl s (tell (List.replicate n false) s) [s] 0 0 0 := by
  have hz : Nl.cnt (List.replicate n false) = 0 := by
    have : ∀ k, Nl.cnt (List.replicate k false) = 0 := by
      intro k; induction k with
      | zero => rfl
      | succ k ih => simp [List.replicate_succ, Nl.cnt, ih]
    exact this n
  refine ⟨by rw [tell_len]; simp, ?_, fun x => ?_, by simp, fun x hx => ?_, fun j hj hi => by omega, fun hi => ⟨fun q hq hqr => by omega, fun hr _ x hx => by simp at hx⟩⟩
  · unfold tell
    rw [cnt_tell _ _ (by simp; omega) (by rw [List.getD_eq_getElem?_getD, List.getElem?_replicate]; split <;> rfl), hz]
    rfl
  · constructor
    · intro h
      rcases tell_back h0 h with rfl | h
      · simp
      · obtain ⟨a, b⟩ := isAt_lt h
        rw [isAt_get a (by omega), List.getElem_replicate] at h; cases h
    · intro h
      rw [List.mem_singleton] at h
      subst h
      exact tell_at h0 (by simp; exact h1)
  · rw [List.mem_singleton] at hx
    subst hx
    exact .here x
theorem Bfs.small {n : Nat} {rs : List Rl} {nl : List Bool} {s : Int} {inn : List Bool} {l : List Int} {i r k : Nat} (h : Bfs n rs nl s inn l i r k) : l.length ≤ n := by
  rw [h.cnt, ← h.len]; exact cnt_le inn
/-- a symbol that is told already -/
theorem Bfs.skip {n : Nat} {rs : List Rl} {nl : List Bool} {s : Int} {inn : List Bool} {l : List Int} {i r k : Nat} (h : Bfs n rs nl s inn l i r k) (hr : r < rs.length) (hk : k < rs[r].2.length) (hx : isAt inn rs[r].2[k] = true) : Bfs n rs nl s inn l i r (k + 1) :=
  ⟨h.len, h.cnt, h.mem, h.start, h.sound, h.done, fun hi => ⟨(h.now hi).1, fun _ e x q => by
    rw [List.take_add_one, List.getElem?_eq_getElem hk] at q
    rcases List.mem_append.1 q with q | q
    · exact (h.now hi).2 hr e x q
    · simp only [Option.toList_some, List.mem_singleton] at q
      subst q; exact hx⟩⟩
/-- a symbol more -/
theorem Bfs.add {n : Nat} {rs : List Rl} {nl : List Bool} {s : Int} {inn : List Bool} {l : List Int} {i r k : Nat} (h : Bfs n rs nl s inn l i r k) (hi : i < l.length) (hr : r < rs.length) (hk : k < rs[r].2.length) (e : rs[r].1 = l[i]) (hh : rs[r].2[k] ∈ heads nl rs[r].2) (h0 : 0 ≤ rs[r].2[k]) (h1 : rs[r].2[k] < n) (hx : isAt inn rs[r].2[k] = false) :
    Bfs n rs nl s (tell inn rs[r].2[k]) (l ++ [rs[r].2[k]]) i r (k + 1) := by
  have hmono : ∀ x, isAt inn x = true → isAt (tell inn rs[r].2[k]) x = true := fun x q => (tell_le _ _).isAt q
  have hself : isAt (tell inn rs[r].2[k]) rs[r].2[k] = true := tell_at h0 (by rw [h.len]; exact h1)
  refine ⟨by rw [tell_len, h.len], ?_, fun x => ?_, List.mem_append.2 (.inl h.start), fun x q => ?_, fun j hj hji q hq eq x hx' => ?_, fun hi' => ⟨fun q hq hqr eq x hx' => ?_, fun _ eq x hx' => ?_⟩⟩
  · have hg : inn.getD rs[r].2[k].toNat false = false := by simpa [isAt, h0] using hx
    have := cnt_tell inn rs[r].2[k].toNat (by rw [h.len]; omega) hg
    unfold tell
    rw [this, List.length_append, h.cnt]; rfl
  · rw [List.mem_append, List.mem_singleton, ← h.mem x]
    constructor
    · intro q
      rcases tell_back h0 q with q | q
      · exact .inr q
      · exact .inl q
    · rintro (q | q)
      · exact hmono x q
      · rw [q]; exact hself
  · rcases List.mem_append.1 q with q | q
    · exact h.sound x q
    · rw [List.mem_singleton] at q
      rw [q]
      exact (h.sound l[i] (List.getElem_mem hi)).snoc (List.getElem_mem hr) e hh
  · have hjl : j < l.length := by omega
    rw [List.getElem_append_left hjl] at eq
    exact hmono x (h.done j hjl hji q hq eq x hx')
  · rw [List.getElem_append_left hi] at eq
    exact hmono x ((h.now hi).1 q hq hqr eq x hx')
  · rw [List.take_add_one, List.getElem?_eq_getElem hk] at hx'
    rcases List.mem_append.1 hx' with q | q
    · exact hmono x ((h.now hi).2 hr e x q)
    · simp only [Option.toList_some, List.mem_singleton] at q
      rw [q]; exact hself
/-- the next rule -/
theorem Bfs.rule {n : Nat} {rs : List Rl} {nl : List Bool} {s : Int} {inn : List Bool} {l : List Int} {i r k : Nat} (h : Bfs n rs nl s inn l i r k) (hc : ∀ (hi : i < l.length) (hr : r < rs.length), rs[r].1 = l[i] → ∀ x ∈ heads nl rs[r].2, x ∈ rs[r].2.take k) : Bfs n rs nl s inn l i (r + 1) 0 :=
  ⟨h.len, h.cnt, h.mem, h.start, h.sound, h.done, fun hi => ⟨fun q hq hqr eq x hx => by
    by_cases e : q < r
    · exact (h.now hi).1 q hq e eq x hx
    · obtain rfl : q = r := by omega
      exact (h.now hi).2 hq eq x (hc hi hq eq x hx), fun _ _ x hx => by simp at hx⟩⟩
/-- the next of the list -/
theorem Bfs.next {n : Nat} {rs : List Rl} {nl : List Bool} {s : Int} {inn : List Bool} {l : List Int} {i : Nat} (h : Bfs n rs nl s inn l i rs.length 0) : Bfs n rs nl s inn l (i + 1) 0 0 :=
  ⟨h.len, h.cnt, h.mem, h.start, h.sound, fun j hj hji q hq eq x hx => by
    by_cases e : j < i
    · exact h.done j hj e q hq eq x hx
    · obtain rfl : j = i := by omega
      obtain ⟨m, hm, rfl⟩ := List.getElem_of_mem hq
      exact (h.now hj).1 m hm hm eq x hx, fun hi => ⟨fun q hq hqr => by omega, fun _ _ x hx => by simp at hx⟩⟩
theorem Bfs.end {n : Nat} {rs : List Rl} {nl : List Bool} {s : Int} {inn : List Bool} {l : List Int} (h : Bfs n rs nl s inn l l.length 0 0) (x : Int) : isAt inn x = true ↔ Goes rs nl s x := by
  refine ⟨fun q => h.sound x ((h.mem x).1 q), fun q => ?_⟩
  have key : ∀ {a b : Int}, Goes rs nl a b → isAt inn a = true → isAt inn b = true := by
    intro a b hg
    induction hg with
    | here s => exact id
    | on r hr y hy t _ ih =>
      intro ha
      obtain ⟨j, hj, e⟩ := List.getElem_of_mem ((h.mem r.1).1 ha)
      exact ih (h.done j hj hj r hr e.symm y hy)
  exact key q ((h.mem s).2 h.start)
end Go.Proofs.YtdjjconccneaiaaGreat.Fi
