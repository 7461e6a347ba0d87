/-
  Two rows of numbers, one behind the other, in a region that draws its order: each append as a step that AppR bears.
-/
import Derived.Test.YtfamhdpiomhjlaaGreatAppMany
import Derived.Test.YtfamhdpiomhjlaaGreatHeldLib
import Derived.Test.YtfamhdpiomhjlaaGreatSplitLib
namespace Go.Proofs.YtfamhdpiomhjlaaGreat
open Go.RowKit Go.Conc

theorem wp_append_two {o : Oper} {a : Act} {w : World} {K : Act → World → Prop} {Q' : Exit → Act → World → Prop} (s x : Operand) (ho : o.op = .call { callee := .builtin .append, args := #[s, x], argTypes := #[32, 32] })
    (N : Nat) (v : Value) (P : List Int) (hs : a.eval s = v) (hown : OwnInts N w v P) (ao : Option Addr) (c : Nat) (Q : List Int) (hx : a.eval x = .slice ao Q.length c) (hS : IntsAt w.heap.size w ao Q) (hl : P.length + Q.length ≤ 2000) (hM : N ≤ w.heap.size)
    (h : ∀ v' w', OwnInts N w' v' (P ++ Q) → AppR N P Q w w' → K (a.put o.dst v') w') : o.wp Tryz.prog a w K Q' := by
  rcases hown.2 with ⟨e, h0⟩ | ⟨g, cap, cur, e, _⟩
  · refine wp_append_ints s x ho N v P hs hown ao c Q hx hS hl hM fun v' w' ho' hg => h v' w' ho' (AppR.none ?_ hM)
    rw [e] at hg
    exact hg
  · subst e
    obtain ⟨g2, cap2, w', hr, h1, h2⟩ := run_append_many w o.type N g cap P hown ao c Q hS (by omega) hM
    unfold Oper.wp execOp
    simp only [ho, resolve, invoke, builtin, Sem.run_bind, Sem.run_pure, Result.andThen_ok, List.map_toArray, List.map_cons, List.map_nil, hs, hx, hr]
    refine h _ w' ?_ (h2.elim (fun q => AppR.none q hM) (fun q => q.1))
    exact h1
theorem AppR.lat0 {N : Nat} {p q : List Int} {w w' : World} (h : Lat w w') (hN : N ≤ w.heap.size) : AppR N p q w w' := AppR.lat h hN
theorem wpFactsA_val {P : Program} {N : Nat} {p q : List Int} {ops : Array Oper} {w0 : World} {Q : Exit → Act → World → Prop} {all ss : List Spec} {tl : List Oper} {c : Value} {o : Oper} {rest : List Oper} {vs : List Value} {a : Act} (hw : Region.wanted o (yielded ops a.tmps) = true)
    (h1 : ∀ w, AppR N p q w0 w → depsHold all vs w o.after.toList → ∀ K : Act → World → Prop, (∀ w', AppR N p q w w' → K (a.put o.dst c) w') → o.wp P a w K (fun _ _ _ => False)) (h2 : wpFacts P ops (AppR N p q) w0 Q all tl ss rest (vs ++ [c]) (a.put o.dst c)) : wpFacts P ops (AppR N p q) w0 Q all tl (.val c :: ss) (o :: rest) vs a :=
  ⟨fun w hR hd => StepF.val hw (h1 w hR hd), h2⟩
end Go.Proofs.YtfamhdpiomhjlaaGreat
