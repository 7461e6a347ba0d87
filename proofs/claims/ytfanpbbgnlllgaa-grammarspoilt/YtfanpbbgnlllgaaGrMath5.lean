/-
  The plain mathematics of layer 3: a text that is written twice.
-/
import Derived.Test.YtfanpbbgnlllgaaGrMath2
import Derived.Test.YtfanpbbgnlllgaaGrMath3
namespace Go.Proofs.Ytfanpbbgnlllgaa.Rd

/-- another token of the same kind -/
def mvAl (f : Tk → Tk) (x : Al) : Al := (f x.1, x.2.map f)
def mvMd (f : Tk → Tk) : Md → Md
  | .start => .start
  | .eq l => .eq (f l)
  | .body l a => .body (f l) (a.map f)
def mvSt (f : Tk → Tk) (s : St) : St := ⟨s.acc.map (mvAl f), mvMd f s.md⟩

theorem step_mv (f : Tk → Tk) (hf : ∀ t, (f t).kind = t.kind) (s : St) (t : Tk) :
    (∀ s', step s t = .ok s' → step (mvSt f s) (f t) = .ok (mvSt f s')) := by
  intro s' h
  rcases step_ok h with ⟨h1, h2, rfl⟩ | ⟨l, h1, h2, rfl⟩ | ⟨l, a, h1, h2, rfl⟩ | ⟨l, a, h1, h2, h3, h4, rfl⟩ | ⟨l, a, h1, h2, h3, h4, rfl⟩
  · rw [show mvSt f s = ⟨s.acc.map (mvAl f), .start⟩ from by rw [mvSt, h1]; rfl, step_name (by rw [hf, h2])]; rfl
  · rw [show mvSt f s = ⟨s.acc.map (mvAl f), .eq (f l)⟩ from by rw [mvSt, h1]; rfl, step_is (by rw [hf, h2])]; rfl
  · rw [show mvSt f s = ⟨s.acc.map (mvAl f), .body (f l) (a.map f)⟩ from by rw [mvSt, h1]; rfl, step_sym (by rw [hf]; exact h2)]; simp [mvSt, mvMd]
  · rw [show mvSt f s = ⟨s.acc.map (mvAl f), .body (f l) (a.map f)⟩ from by rw [mvSt, h1]; rfl, step_bar (by rw [hf, h2]) (by rw [List.length_map, List.length_map]; omega)]; simp [mvSt, mvMd, mvAl]
  · rw [show mvSt f s = ⟨s.acc.map (mvAl f), .body (f l) (a.map f)⟩ from by rw [mvSt, h1]; rfl, step_end (by rw [hf, h2]) (by rw [List.length_map, List.length_map]; omega)]; simp [mvSt, mvMd, mvAl]

theorem run_mv (f : Tk → Tk) (hf : ∀ t, (f t).kind = t.kind) : ∀ (ts : List Tk) (s s' : St), run s ts = .ok s' → run (mvSt f s) (ts.map f) = .ok (mvSt f s')
  | [], s, s', h => by rw [run] at h; cases h; rfl
  | t :: r, s, s', h => by
    rw [run] at h
    cases hs : step s t with
    | error e => rw [hs] at h; cases h
    | ok s1 =>
      rw [hs] at h
      rw [List.map_cons, run, step_mv f hf s t s1 hs]
      exact run_mv f hf r s1 s' h

/-- tokens that make no alternatives make none when written twice -/
theorem alts_twice_err (f : Tk → Tk) (hf : ∀ t, (f t).kind = t.kind) {ts : List Tk} {en en' : Int} {e : Er} (h : alts ts en = .error e) : ∃ e', alts (ts ++ ts.map f) en' = .error e' := by
  have fail : ∀ {s ts}, (∃ e, run s ts = .error e) → ∃ e', whole en' s ts = .error e' := fun ⟨e, h⟩ => ⟨e, by unfold whole; rw [h]⟩
  unfold alts
  cases hr : run ⟨[], .start⟩ ts with
  | error e1 => exact fail ⟨e1, by rw [run_append, hr]⟩
  | ok s1 =>
    have hw : whole en' ⟨[], .start⟩ (ts ++ ts.map f) = whole en' s1 (ts.map f) := by unfold whole; rw [run_append, hr]
    rw [hw]
    unfold alts whole at h
    rw [hr] at h
    simp only at h
    obtain ⟨acc, md⟩ := s1
    cases ts with
    | nil => rw [run] at hr; cases hr; exact ⟨_, rfl⟩
    | cons t r =>
      have ht : t.kind = 1 := by
        by_cases k : t.kind = 1
        · exact k
        · rw [run, step_noname k] at hr; cases hr
      rw [run, step_name ht] at hr
      simp only at hr
      cases md with
      | start =>
        rcases fin_cases en ⟨acc, .start⟩ with ⟨_, h2⟩ | ⟨h1, _⟩
        · have h3 := h2 rfl
          simp only at h3
          subst h3
          have hr' : run ⟨[], .start⟩ (t :: r) = .ok ⟨[], .start⟩ := by rw [run, step_name ht]; exact hr
          rcases run_start hr' rfl with hh | hh
          · cases hh
          · simp at hh
        · rw [h1] at h; cases h
      | eq l => exact fail ⟨_, by rw [List.map_cons, run, step_nois (by rw [hf, ht]; decide)]⟩
      | body l a =>
        cases r with
        | nil => rw [run] at hr; cases hr
        | cons u v =>
          have hu : u.kind = 3 := by
            by_cases k : u.kind = 3
            · exact k
            · rw [run, step_nois k] at hr; cases hr
          refine fail ⟨(12, (f u).pos), ?_⟩
          rw [List.map_cons, run, step_sym (by rw [hf, ht]; exact .inl rfl)]
          show run ⟨acc, .body l (a ++ [f t])⟩ (List.map f (u :: v)) = _
          rw [List.map_cons, run, step_other (by rw [hf, hu]; decide) (by rw [hf, hu]; decide)]

/-- tokens that make alternatives make them twice, or too many -/
theorem alts_twice_ok (f : Tk → Tk) (hf : ∀ t, (f t).kind = t.kind) {ts : List Tk} {en' : Int} {as : List Al} (h : run ⟨[], .start⟩ ts = .ok ⟨as, .start⟩) (ha : as ≠ []) :
    (2 * as.length ≤ 60 ∧ altsG (ts ++ ts.map f) en' = (0, 0, as ++ as.map (mvAl f))) ∨ (60 < 2 * as.length ∧ ∃ p, altsG (ts ++ ts.map f) en' = (14, p, [])) := by
  have h2 : run ⟨[], .start⟩ (ts.map f) = .ok ⟨as.map (mvAl f), .start⟩ := run_mv f hf ts _ _ h
  have hne : ts.map f ≠ [] := by
    intro e
    have : ts = [] := List.map_eq_nil_iff.1 e
    subst this
    rw [run] at h; cases h; exact ha rfl
  have h3 : alts (ts.map f) en' = .ok (as.map (mvAl f)) := by
    unfold alts whole; rw [h2]; simp [fin, ha]
  rcases (alts_append (en := en') h ha hne).1 _ h3 with h4 | ⟨⟨p, h4⟩, h5⟩
  · have := (altsG_small (altsG_ok h4)).1
    rw [List.length_append, List.length_map] at this
    exact .inl ⟨by omega, altsG_ok h4⟩
  · rw [List.length_map] at h5
    exact .inr ⟨by omega, p, altsG_err h4⟩
end Go.Proofs.Ytfanpbbgnlllgaa.Rd

namespace Go.Proofs.Ytfanpbbgnlllgaa.Gr
open Go.Proofs.Ytfanpbbgnlllgaa.Rd

theorem foldl_put_in {α β : Type} [DecidableEq β] (g : α → β) : ∀ (xs : List α) (l : List β), (∀ x ∈ xs, g x ∈ l) → xs.foldl (fun l x => put l (g x)) l = l
  | [], l, _ => rfl
  | x :: r, l, h => by
    rw [List.foldl_cons, put_in (h x List.mem_cons_self)]
    exact foldl_put_in g r l (fun y hy => h y (List.mem_cons_of_mem _ hy))
theorem foldl_put_sub {α β : Type} [DecidableEq β] (g : α → β) : ∀ (xs : List α) (l : List β), (∀ y ∈ l, y ∈ xs.foldl (fun l x => put l (g x)) l) ∧ ∀ x ∈ xs, g x ∈ xs.foldl (fun l x => put l (g x)) l
  | [], l => ⟨fun y h => h, fun x h => by simp at h⟩
  | x :: r, l => by
    obtain ⟨h1, h2⟩ := foldl_put_sub g r (put l (g x))
    refine ⟨fun y h => h1 y (put_sub h), fun y h => ?_⟩
    rcases List.mem_cons.1 h with rfl | h
    · exact h1 _ (put_self _ _)
    · exact h2 y h

theorem quote_sub {l : List ByteArray} {t : Tk} {y : ByteArray} (h : y ∈ l) : y ∈ quote l t := by unfold quote; split; exact put_sub h; exact h
theorem quotes_sub : ∀ (ts : List Tk) (l : List ByteArray), (∀ y ∈ l, y ∈ ts.foldl quote l) ∧ ∀ t ∈ ts, t.kind = 2 → t.text ∈ ts.foldl quote l
  | [], l => ⟨fun y h => h, fun x h => by simp at h⟩
  | t :: r, l => by
    obtain ⟨h1, h2⟩ := quotes_sub r (quote l t)
    refine ⟨fun y h => h1 y (quote_sub h), fun u h hk => ?_⟩
    rcases List.mem_cons.1 h with rfl | h
    · refine h1 _ ?_
      unfold quote; rw [if_pos hk]; exact put_self _ _
    · exact h2 u h hk
theorem quotes_in : ∀ (ts : List Tk) (l : List ByteArray), (∀ t ∈ ts, t.kind = 2 → t.text ∈ l) → ts.foldl quote l = l
  | [], l, _ => rfl
  | t :: r, l, h => by
    have e : quote l t = l := by
      unfold quote
      by_cases k : t.kind = 2
      · rw [if_pos k, put_in (h t List.mem_cons_self k)]
      · rw [if_neg k]
    rw [List.foldl_cons, e]
    exact quotes_in r l (fun u hu => h u (List.mem_cons_of_mem _ hu))
theorem terms_sub : ∀ (as : List Al) (l : List ByteArray), (∀ y ∈ l, y ∈ as.foldl quotes l) ∧ ∀ a ∈ as, ∀ t ∈ a.2, t.kind = 2 → t.text ∈ as.foldl quotes l
  | [], l => ⟨fun y h => h, fun x h => by simp at h⟩
  | a :: r, l => by
    obtain ⟨h1, h2⟩ := terms_sub r (quotes l a)
    obtain ⟨q1, q2⟩ := quotes_sub a.2 l
    refine ⟨fun y h => h1 y (q1 y h), fun u h => ?_⟩
    rcases List.mem_cons.1 h with rfl | h
    · exact fun t ht hk => h1 _ (q2 t ht hk)
    · exact h2 u h
theorem terms_in : ∀ (as : List Al) (l : List ByteArray), (∀ a ∈ as, ∀ t ∈ a.2, t.kind = 2 → t.text ∈ l) → as.foldl quotes l = l
  | [], l, _ => rfl
  | a :: r, l, h => by
    rw [List.foldl_cons, show quotes l a = l from quotes_in a.2 l (h a List.mem_cons_self)]
    exact terms_in r l (fun b hb => h b (List.mem_cons_of_mem _ hb))

theorem undefT_mv (f : Tk → Tk) (hk : ∀ t, (f t).kind = t.kind) (hx : ∀ t, (f t).text = t.text) (ns : List ByteArray) : ∀ ts : List Tk, undefT ns ts = none → undefT ns (ts.map f) = none
  | [], _ => rfl
  | t :: r, h => by
    rw [undefT] at h
    rw [List.map_cons, undefT, hk, hx]
    split at h
    · cases h
    · rename_i hc
      rw [if_neg hc]; exact undefT_mv f hk hx ns r h
theorem undef_twice (f : Tk → Tk) (hk : ∀ t, (f t).kind = t.kind) (hx : ∀ t, (f t).text = t.text) (ns : List ByteArray) (as : List Al) : undef ns (as ++ as.map (mvAl f)) = undef ns as := by
  have app : ∀ xs ys : List Al, undef ns (xs ++ ys) = (undef ns xs).or (undef ns ys) := by
    intro xs ys
    induction xs with
    | nil => rfl
    | cons x r ih => rw [List.cons_append, undef, undef, ih, Option.or_assoc]
  have non : ∀ xs : List Al, undef ns xs = none → undef ns (xs.map (mvAl f)) = none := by
    intro xs
    induction xs with
    | nil => exact fun _ => rfl
    | cons x r ih =>
      intro h
      rw [undef] at h
      obtain ⟨h1, h2⟩ := Option.or_eq_none_iff.1 h
      rw [List.map_cons, undef, show (mvAl f x).2 = x.2.map f from rfl, undefT_mv f hk hx ns _ h1, ih h2]; rfl
  rw [app]
  cases h : undef ns as with
  | none => rw [non as h]; rfl
  | some p => rfl

theorem of_twice (f : Tk → Tk) (hk : ∀ t, (f t).kind = t.kind) (hx : ∀ t, (f t).text = t.text) (as : List Al) : of (as ++ as.map (mvAl f)) = of as := by
  have hn : names (as ++ as.map (mvAl f)) = names as := by
    unfold names
    rw [List.foldl_append]
    refine foldl_put_in (fun a : Al => a.1.text) _ _ (fun x h => ?_)
    obtain ⟨a, ha, rfl⟩ := List.mem_map.1 h
    rw [show (mvAl f a).1.text = a.1.text from hx _]
    exact (foldl_put_sub (fun a : Al => a.1.text) as []).2 a ha
  have ht : terms (as ++ as.map (mvAl f)) = terms as := by
    unfold terms
    rw [List.foldl_append]
    refine terms_in _ _ (fun x h t htx hk2 => ?_)
    obtain ⟨a, ha, rfl⟩ := List.mem_map.1 h
    obtain ⟨u, hu, rfl⟩ := List.mem_map.1 (show t ∈ a.2.map f from htx)
    rw [hk] at hk2
    rw [hx]
    exact (terms_sub as []).2 a ha u hu hk2
  have hs : ∀ ts ns t, sym ts ns (f t) = sym ts ns t := fun ts ns t => by unfold sym; rw [hk, hx]
  have hr : ∀ ts ns, rules ts ns (as ++ as.map (mvAl f)) = rules ts ns as := by
    intro ts ns
    unfold rules
    rw [List.foldl_append]
    refine foldl_put_in (fun a : Al => rule ts ns a) _ _ (fun x h => ?_)
    obtain ⟨a, ha, rfl⟩ := List.mem_map.1 h
    have e : rule ts ns (mvAl f a) = rule ts ns a := by
      unfold rule mvAl
      simp only [hs, List.map_map]
      congr 1
      exact List.map_congr_left (fun t _ => hs ts ns t)
    show rule ts ns (mvAl f a) ∈ _
    rw [e]
    exact (foldl_put_sub (fun a : Al => rule ts ns a) as []).2 a ha
  unfold of
  rw [hn, ht, undef_twice f hk hx, hr]
end Go.Proofs.Ytfanpbbgnlllgaa.Gr
