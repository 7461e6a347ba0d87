/-
  The plain mathematics of the document's answer for layer 9 (follow): round by round, till nothing changes.
-/
import Derived.Test.YtdocbgfpnaiijaaGreatFoMath
namespace Go.Proofs.YtdocbgfpnaiijaaGreat.Fo
open Go.Proofs.YtdocbgfpnaiijaaGreat.Gr (Rl)
open Go.Proofs.YtdocbgfpnaiijaaGreat.Nl (isAt isAt_lt isAt_get isAt_nat allIn allIn_iff cnt cnt_mono cnt_le Le Fit tell)
open Go.Proofs.YtdocbgfpnaiijaaGreat.Fi (heads Beg has put row cnt2 Shape)

/-- what an occurrence asks for -/
def Asks (rs : List Rl) (nl : List Bool) (T : Nat) (ss : List (List Bool)) (l : Int) (rest : List Int) (v : Int) : Prop := (∃ y ∈ heads nl rest, Beg rs nl T y v) ∨ (allIn nl rest = true ∧ has ss l v = true)
/-- amid a round that began with ss0: 'ch': something has changed; of the first i rules all occurrences, of the i-th one the first k places, have been looked at -/
structure Rnd (rs : List Rl) (nl : List Bool) (T n N : Nat) (ss0 ss : List (List Bool)) (ch : Bool) (i k : Nat) : Prop where
  shape : Shape N (n + 1) ss
  sound : ∀ a v, has ss a v = true → Fol rs nl T n a v
  start : has ss 0 n = true
  yes : ch = true → cnt2 ss0 < cnt2 ss
  no : ch = false → ss = ss0 ∧ ∀ r (hr : r < rs.length) j (hj : j < rs[r].2.length), (r < i ∨ r = i ∧ j < k) → (T : Int) ≤ rs[r].2[j] → ∀ v, Asks rs nl T ss (rs[r].1 - T) (rs[r].2.drop (j + 1)) v → has ss (rs[r].2[j] - T) v = true
theorem Rnd.begin {rs : List Rl} {nl : List Bool} {T n N : Nat} {ss : List (List Bool)} (h1 : Shape N (n + 1) ss) (h2 : ∀ a v, has ss a v = true → Fol rs nl T n a v) (h3 : has ss 0 n = true) : Rnd rs nl T n N ss ss false 0 0 :=
  ⟨h1, h2, h3, fun q => by simp at q, fun _ => ⟨rfl, fun r hr j hj h => by omega⟩⟩
theorem Rnd.skip {rs : List Rl} {nl : List Bool} {T n N : Nat} {ss0 ss : List (List Bool)} {ch : Bool} {i k : Nat} (h : Rnd rs nl T n N ss0 ss ch i k) (hi : i < rs.length) (hk : k < rs[i].2.length) (hx : rs[i].2[k] < (T : Int)) : Rnd rs nl T n N ss0 ss ch i (k + 1) :=
  ⟨h.shape, h.sound, h.start, h.yes, fun e => ⟨(h.no e).1, fun r hr j hj q hx' => by
    by_cases e2 : r = i ∧ j = k
    · obtain ⟨rfl, rfl⟩ := e2; omega
    · exact (h.no e).2 r hr j hj (by omega) hx'⟩⟩
theorem Rnd.rule {rs : List Rl} {nl : List Bool} {T n N : Nat} {ss0 ss : List (List Bool)} {ch : Bool} {i : Nat} (hi : i < rs.length) (h : Rnd rs nl T n N ss0 ss ch i rs[i].2.length) : Rnd rs nl T n N ss0 ss ch (i + 1) 0 :=
  ⟨h.shape, h.sound, h.start, h.yes, fun e => ⟨(h.no e).1, fun r hr j hj q hx' => by
    by_cases e2 : r = i
    · subst e2; exact (h.no e).2 r hr j hj (.inr ⟨rfl, hj⟩) hx'
    · exact (h.no e).2 r hr j hj (by omega) hx'⟩⟩
theorem Rnd.done {rs : List Rl} {nl : List Bool} {T n N : Nat} {ss0 ss : List (List Bool)} (h : Rnd rs nl T n N ss0 ss false rs.length 0) : ss = tab (Fol rs nl T n) N (n + 1) :=
  tab_is h.shape fun s t => ⟨h.sound s t, fun q => Reach.all (P := fun s t => has ss s t = true) (fun x v b => by
    rcases b with ⟨rfl, rfl⟩ | ⟨l, rest, ⟨r, hr, k, hk, hx, rfl, rfl, rfl⟩, y, hy, hb⟩
    · exact h.start
    · obtain ⟨i, hi, rfl⟩ := List.getElem_of_mem hr
      exact (h.no rfl).2 i hi k hk (.inl hi) hx v (.inl ⟨y, hy, hb⟩)) (fun a b v e p => by
    obtain ⟨rest, ⟨r, hr, k, hk, hx, rfl, rfl, rfl⟩, hall⟩ := e
    obtain ⟨i, hi, rfl⟩ := List.getElem_of_mem hr
    exact (h.no rfl).2 i hi k hk (.inl hi) hx v (.inr ⟨hall, p⟩)) q⟩

/-- amid the laying in of what an occurrence of x asks for: it was reckoned with ssA; the first j have been laid in -/
structure Mrg (rs : List Rl) (nl : List Bool) (T n N : Nat) (ss0 ssA : List (List Bool)) (chA : Bool) (add : List Bool) (x : Int) (ss : List (List Bool)) (ch : Bool) (j : Nat) : Prop where
  shape : Shape N (n + 1) ss
  sound : ∀ a v, has ss a v = true → Fol rs nl T n a v
  start : has ss 0 n = true
  yes : ch = true → cnt2 ss0 < cnt2 ss
  no : ch = false → ss = ssA ∧ chA = false ∧ ∀ v : Int, v < j → isAt add v = true → has ss x v = true
theorem Mrg.begin {rs : List Rl} {nl : List Bool} {T n N : Nat} {ss0 ss : List (List Bool)} {ch : Bool} {i k : Nat} (h : Rnd rs nl T n N ss0 ss ch i k) (add : List Bool) (x : Int) : Mrg rs nl T n N ss0 ss ch add x ss ch 0 :=
  ⟨h.shape, h.sound, h.start, h.yes, fun e => ⟨rfl, e, fun v hv q => by have := (isAt_lt q).1; omega⟩⟩
theorem Mrg.same {rs : List Rl} {nl : List Bool} {T n N : Nat} {ss0 ssA : List (List Bool)} {chA : Bool} {add : List Bool} {x : Int} {ss : List (List Bool)} {ch : Bool} {j : Nat} (h : Mrg rs nl T n N ss0 ssA chA add x ss ch j) (hs : isAt add (j : Int) = true → has ss x j = true) : Mrg rs nl T n N ss0 ssA chA add x ss ch (j + 1) :=
  ⟨h.shape, h.sound, h.start, h.yes, fun e => ⟨(h.no e).1, (h.no e).2.1, fun v hv q => by
    by_cases e2 : v < j
    · exact (h.no e).2.2 v e2 q
    · obtain rfl : v = (j : Int) := by omega
      exact hs q⟩⟩
theorem Mrg.tell {rs : List Rl} {nl : List Bool} {T n N : Nat} {ss0 ssA : List (List Bool)} {chA : Bool} {add : List Bool} {x : Int} {ss : List (List Bool)} {ch : Bool} {i k j : Nat} (hA : Rnd rs nl T n N ss0 ssA chA i k) (h : Mrg rs nl T n N ss0 ssA chA add x ss ch j) (hx : 0 ≤ x ∧ x < N) (hj : j < n + 1) (hf : Fol rs nl T n x j) (hn : has ss x j = false) : Mrg rs nl T n N ss0 ssA chA add x (put ss x j) true (j + 1) := by
  have hc := Fi.cnt2_put h.shape hx.1 hx.2 (by omega) (show (j : Int) < ((n + 1 : Nat) : Int) by omega) hn
  refine ⟨h.shape.put hx.1 hx.2, fun a v q => ?_, Fi.put_mono h.shape hx.1 hx.2 h.start, fun _ => ?_, fun e => by simp at e⟩
  · rcases Fi.put_back h.shape hx.1 hx.2 (by omega) q with ⟨rfl, rfl⟩ | q
    · exact hf
    · exact h.sound a v q
  · cases ch
    · obtain ⟨e1, e2, _⟩ := h.no rfl
      have e3 := (hA.no e2).1
      rw [hc, e1, e3]; omega
    · have := h.yes rfl; omega
theorem Mrg.end {rs : List Rl} {nl : List Bool} {T n N : Nat} {ss0 ssA : List (List Bool)} {chA : Bool} {add : List Bool} {ss : List (List Bool)} {ch : Bool} {i k : Nat} (hA : Rnd rs nl T n N ss0 ssA chA i k) (hi : i < rs.length) (hk : k < rs[i].2.length) (hl : add.length = n + 1) (hadd : ∀ v, Asks rs nl T ssA (rs[i].1 - T) (rs[i].2.drop (k + 1)) v → isAt add v = true)
    (h : Mrg rs nl T n N ss0 ssA chA add (rs[i].2[k] - T) ss ch (n + 1)) : Rnd rs nl T n N ss0 ss ch i (k + 1) :=
  ⟨h.shape, h.sound, h.start, h.yes, fun e => by
    obtain ⟨e1, e2, e3⟩ := h.no e
    obtain ⟨a1, a2⟩ := hA.no e2
    subst e1
    refine ⟨a1, fun r hr j hj q hx' v hv => ?_⟩
    by_cases c : r = i ∧ j = k
    · obtain ⟨rfl, rfl⟩ := c
      have hw := hadd v hv
      have := (isAt_lt hw).2
      exact e3 v (by omega) hw
    · exact a2 r hr j hj (by omega) hx' v hv⟩

/-- what an occurrence asks for, as answers: what is marked, joined with a set -/
def orRow (ad : List Bool) (ss : List (List Bool)) (a : Int) : List Bool := (List.range ad.length).map fun (t : Nat) => ad.getD t false || has ss a (t : Int)
theorem orRow_len (ad : List Bool) (ss : List (List Bool)) (a : Int) : (orRow ad ss a).length = ad.length := by simp [orRow]
theorem orRow_get {ad : List Bool} {ss : List (List Bool)} {a : Int} (t : Nat) (h : t < ad.length) (h2 : t < (orRow ad ss a).length) : (orRow ad ss a)[t]'h2 = (ad[t] || has ss a (t : Int)) := by
  simp [orRow, List.getD_eq_getElem?_getD, h]
theorem orRow_at {N : Nat} {ad : List Bool} {ss : List (List Bool)} {a : Int} (hs : Shape N ad.length ss) {v : Int} : isAt (orRow ad ss a) v = true ↔ (isAt ad v = true ∨ has ss a v = true) := by
  constructor
  · intro h
    obtain ⟨h0, h1⟩ := isAt_lt h
    rw [orRow_len] at h1
    obtain ⟨t, rfl⟩ : ∃ t : Nat, v = t := ⟨v.toNat, by omega⟩
    have ht : t < ad.length := by omega
    rw [isAt_get (by omega) (by simpa [orRow_len] using ht), orRow_get _ (by simpa using ht)] at h
    rw [Bool.or_eq_true] at h
    rcases h with h | h
    · left; rw [isAt_get (by omega) (by simpa using ht)]; simpa using h
    · right; simpa using h
  · intro h
    have hv : 0 ≤ v ∧ v < ad.length := by
      rcases h with h | h
      · exact isAt_lt h
      · exact (hs.lt h).2
    obtain ⟨t, rfl⟩ : ∃ t : Nat, v = t := ⟨v.toNat, by omega⟩
    have ht : t < ad.length := by omega
    rw [isAt_get (by omega) (by simpa [orRow_len] using ht), orRow_get _ (by simpa using ht), Bool.or_eq_true]
    rcases h with h | h
    · left; rw [isAt_get (by omega) (by simpa using ht)] at h; simpa using h
    · right; simpa using h
/-- what an occurrence asks for stands behind it -/
theorem Rnd.fol {rs : List Rl} {nl : List Bool} {T n N : Nat} {ss0 ss : List (List Bool)} {ch : Bool} {i k : Nat} (h : Rnd rs nl T n N ss0 ss ch i k) (hi : i < rs.length) {j : Nat} (hj : j < rs[i].2.length) (hx : (T : Int) ≤ rs[i].2[j]) {v : Int} (ha : Asks rs nl T ss (rs[i].1 - T) (rs[i].2.drop (j + 1)) v) : Fol rs nl T n (rs[i].2[j] - T) v := by
  have ho : Occ T rs (rs[i].1 - T) (rs[i].2[j] - T) (rs[i].2.drop (j + 1)) := ⟨rs[i], List.getElem_mem hi, j, hj, hx, rfl, rfl, rfl⟩
  rcases ha with ⟨y, hy, hb⟩ | ⟨ha, hv⟩
  · exact .base _ _ (.inr ⟨_, _, ho, y, hy, hb⟩)
  · exact .step _ _ _ ⟨_, ho, ha⟩ (h.sound _ _ hv)
end Go.Proofs.YtdocbgfpnaiijaaGreat.Fo
