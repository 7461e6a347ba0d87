/-
  The plain mathematics of the law FollowLast: behind which nonterminals the end stands; a search with a list.
-/
import Derived.Test.YtdocbgfpnaiijaaFoMath
namespace Go.Proofs.Ytdocbgfpnaiijaa.Fo
open Go.Proofs.Ytdocbgfpnaiijaa.Gr (Rl)
open Go.Proofs.Ytdocbgfpnaiijaa.Nl (isAt isAt_lt isAt_get isAt_nat allIn allIn_iff cnt cnt_mono cnt_le Le Fit tell)
open Go.Proofs.Ytdocbgfpnaiijaa.Fi (heads Beg has put row cnt2 Shape)

/-- of a rule's first m places, those behind which all may be nothing are told -/
def Told (nl : List Bool) (T : Nat) (inn : List Bool) (q : Rl) (m : Nat) : Prop := ∀ j (hj : j < q.2.length), j < m → (T : Int) ≤ q.2[j] → allIn nl (q.2.drop (j + 1)) = true → isAt inn (q.2[j] - T) = true
theorem Told.mono {nl : List Bool} {T : Nat} {inn inn' : List Bool} {q : Rl} {m : Nat} (h : Told nl T inn q m) (hi : ∀ x, isAt inn x = true → isAt inn' x = true) : Told nl T inn' q m :=
  fun j hj a b c => hi _ (h j hj a b c)

/-- amid the search: the list's first i have been looked at; of the i-th one the first r rules; of the r-th one the first k places -/
structure LB (N T n : Nat) (rs : List Rl) (nl : List Bool) (inn : List Bool) (l : List Int) (i r k : Nat) : Prop where
  len : inn.length = N
  cnt : l.length = Nl.cnt inn
  mem : ∀ x : Int, isAt inn x = true ↔ x + T ∈ l
  start : isAt inn 0 = true
  sound : ∀ x, isAt inn x = true → Fol rs nl T n x n
  done : ∀ j (hj : j < l.length), j < i → ∀ q ∈ rs, q.1 = l[j] → Told nl T inn q q.2.length
  now : ∀ hi : i < l.length, (∀ q (hq : q < rs.length), q < r → rs[q].1 = l[i] → Told nl T inn rs[q] rs[q].2.length) ∧ ∀ hr : r < rs.length, rs[r].1 = l[i] → Told nl T inn rs[r] k

theorem LB.begin {N T n : Nat} {rs : List Rl} {nl : List Bool} (h0 : 0 < N) : LB N T n rs nl (tell (List.replicate N false) 0) [(T : Int)] 0 0 0 := by
  have hz : Nl.cnt (List.replicate N false) = 0 := by
    have := cnt_rep N false
    simpa using this
  have hat : ∀ x : Int, isAt (tell (List.replicate N false) 0) x = true ↔ x = 0 := fun x => by
    constructor
    · intro h
      rcases Nl.tell_back (by omega) h with h | h
      · exact h
      · obtain ⟨a, b⟩ := isAt_lt h
        rw [isAt_get a (by omega), List.getElem_replicate] at h; cases h
    · intro h; rw [h]
      exact Nl.tell_at (by omega) (by simp; omega)
  refine ⟨by rw [Nl.tell_len]; simp, ?_, fun x => ?_, (hat 0).2 rfl, fun x hx => ?_, fun j hj hi => by omega, fun hi => ⟨fun q hq hqr => by omega, fun hr _ j hj hjk => by omega⟩⟩
  · unfold tell
    rw [Fi.cnt_tell _ _ (by simp; omega) (by rw [List.getD_eq_getElem?_getD, List.getElem?_replicate]; split <;> rfl), hz]
    rfl
  · rw [hat, List.mem_singleton]; omega
  · rw [hat] at hx; subst hx
    exact .base _ _ (.inl ⟨rfl, rfl⟩)
theorem LB.small {N T n : Nat} {rs : List Rl} {nl inn : List Bool} {l : List Int} {i r k : Nat} (h : LB N T n rs nl inn l i r k) : l.length ≤ N := by
  rw [h.cnt, ← h.len]; exact cnt_le inn
theorem LB.skip {N T n : Nat} {rs : List Rl} {nl inn : List Bool} {l : List Int} {i r k : Nat} (h : LB N T n rs nl inn l i r k) (hr : r < rs.length) (hk : k < rs[r].2.length) (hx : (T : Int) ≤ rs[r].2[k] → allIn nl (rs[r].2.drop (k + 1)) = true → isAt inn (rs[r].2[k] - T) = true) : LB N T n rs nl inn l i r (k + 1) :=
  ⟨h.len, h.cnt, h.mem, h.start, h.sound, h.done, fun hi => ⟨(h.now hi).1, fun _ e j hj hjk a b => by
    by_cases c : j < k
    · exact (h.now hi).2 hr e j hj c a b
    · obtain rfl : j = k := by omega
      exact hx a b⟩⟩
theorem LB.add {N T n : Nat} {rs : List Rl} {nl inn : List Bool} {l : List Int} {i r k : Nat} (h : LB N T n rs nl inn l i r k) (hi : i < l.length) (hr : r < rs.length) (hk : k < rs[r].2.length) (e : rs[r].1 = l[i]) (hT : (T : Int) ≤ rs[r].2[k]) (ha : allIn nl (rs[r].2.drop (k + 1)) = true) (hN : rs[r].2[k] - T < N) (hx : isAt inn (rs[r].2[k] - T) = false) :
    LB N T n rs nl (tell inn (rs[r].2[k] - T)) (l ++ [rs[r].2[k]]) i r (k + 1) := by
  have hmono : ∀ x, isAt inn x = true → isAt (tell inn (rs[r].2[k] - T)) x = true := fun x q => (Nl.tell_le _ _).isAt q
  have hself : isAt (tell inn (rs[r].2[k] - T)) (rs[r].2[k] - T) = true := Nl.tell_at (by omega) (by rw [h.len]; exact hN)
  have hb : ∀ x, isAt (tell inn (rs[r].2[k] - T)) x = true → x = rs[r].2[k] - T ∨ isAt inn x = true := fun x q => Nl.tell_back (by omega) q
  refine ⟨by rw [Nl.tell_len, h.len], ?_, fun x => ?_, hmono _ h.start, fun x q => ?_, fun j hj hji q hq eq => ?_, fun hi' => ⟨fun q hq hqr eq => ?_, fun _ eq j hj hjk a b => ?_⟩⟩
  · have hg : inn.getD (rs[r].2[k] - (T : Int)).toNat false = false := by
      have h0 : (0 : Int) ≤ rs[r].2[k] - T := by omega
      have := hx
      unfold isAt at this
      rw [decide_eq_true h0, Bool.true_and] at this
      exact this
    have := Fi.cnt_tell inn (rs[r].2[k] - (T : Int)).toNat (by rw [h.len]; omega) hg
    unfold tell
    rw [this, List.length_append, h.cnt]; rfl
  · rw [List.mem_append, List.mem_singleton, ← h.mem x]
    constructor
    · intro q
      rcases hb x q with q | q
      · exact .inr (by omega)
      · exact .inl q
    · rintro (q | q)
      · exact hmono x q
      · rw [show x = rs[r].2[k] - T by omega]; exact hself
  · rcases hb x q with q | q
    · subst q
      refine .step (rs[r].1 - T) _ _ ⟨_, ⟨rs[r], List.getElem_mem hr, k, hk, hT, rfl, rfl, rfl⟩, ha⟩ (h.sound _ ((h.mem _).2 ?_))
      rw [e, show l[i] - (T : Int) + T = l[i] by omega]
      exact List.getElem_mem hi
    · exact h.sound x q
  · have hjl : j < l.length := by omega
    rw [List.getElem_append_left hjl] at eq
    exact (h.done j hjl hji q hq eq).mono hmono
  · rw [List.getElem_append_left hi] at eq
    exact ((h.now hi).1 q hq hqr eq).mono hmono
  · by_cases c : j < k
    · exact ((h.now hi).2 hr e).mono hmono j hj c a b
    · obtain rfl : j = k := by omega
      exact hself
theorem LB.other {N T n : Nat} {rs : List Rl} {nl inn : List Bool} {l : List Int} {i r k : Nat} (h : LB N T n rs nl inn l i r k) (hc : ∀ (hi : i < l.length) (hr : r < rs.length), rs[r].1 = l[i] → k = rs[r].2.length) : LB N T n rs nl inn l i (r + 1) 0 :=
  ⟨h.len, h.cnt, h.mem, h.start, h.sound, h.done, fun hi => ⟨fun q hq hqr eq => by
    by_cases e : q < r
    · exact (h.now hi).1 q hq e eq
    · obtain rfl : q = r := by omega
      have := (h.now hi).2 hq eq
      rw [hc hi hq eq] at this; exact this, fun _ _ j hj hjk => by omega⟩⟩
theorem LB.next {N T n : Nat} {rs : List Rl} {nl inn : List Bool} {l : List Int} {i : Nat} (h : LB N T n rs nl inn l i rs.length 0) : LB N T n rs nl inn l (i + 1) 0 0 :=
  ⟨h.len, h.cnt, h.mem, h.start, h.sound, fun j hj hji q hq eq => by
    by_cases e : j < i
    · exact h.done j hj e q hq eq
    · obtain rfl : j = i := by omega
      obtain ⟨m, hm, rfl⟩ := List.getElem_of_mem hq
      exact (h.now hj).1 m hm hm eq, fun hi => ⟨fun q hq hqr => by omega, fun _ _ j hj hjk => by omega⟩⟩
theorem LB.end {N T n : Nat} {rs : List Rl} {nl inn : List Bool} {l : List Int} (hTn : T ≤ n) (h : LB N T n rs nl inn l l.length 0 0) (x : Int) : isAt inn x = true ↔ Fol rs nl T n x n := by
  refine ⟨h.sound x, fun q => ?_⟩
  have key : ∀ x v : Int, Fol rs nl T n x v → v = n → isAt inn x = true := fun x v q => Reach.all (P := fun x v => v = (n : Int) → isAt inn x = true) (fun x v b e => by
    rcases b with ⟨rfl, _⟩ | ⟨_, _, _, y, _, hb⟩
    · exact h.start
    · have := hb.term.2; omega) (fun a b v e p hv => by
    obtain ⟨rest, ⟨r, hr, k, hk, hT, rfl, rfl, rfl⟩, ha⟩ := e
    have hm := (h.mem _).1 (p hv)
    rw [show r.1 - (T : Int) + T = r.1 by omega] at hm
    obtain ⟨j, hj, ej⟩ := List.getElem_of_mem hm
    exact h.done j hj hj r hr ej.symm k hk hk hT ha) q
  exact key x n q rfl
end Go.Proofs.Ytdocbgfpnaiijaa.Fo
