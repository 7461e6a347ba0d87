/-
  A region that draws its order, whose operations only read, and whose callees leave all that there was as it was: one walk, in the class of later worlds.
-/
import Derived.Test.YtdocbgfpnaiijaaReadAlts
import Derived.Deep.QuietTactic
namespace Go.Proofs.Ytdocbgfpnaiijaa
open Go.RowKit

/-- a later world -/
structure Later (W : World) where
  w : World
  h : Below W.heap.size W w

instance (W : World) : Inhabited (Later W) := ⟨⟨W, Below.refl _ W⟩⟩

theorem Later.cell {W : World} {a : Addr} {v : Value} (h : W.cell? a = some v) (p : Later W) : p.w.cell? a = some v := cell_later p.h h

theorem wp_region_later {P : Program} {id : Nat} {Q : Exit → Act → World → Prop} {a : Act} {w : World} {l : List Oper} (hm : P.follows .mixedOrders = true) (hB : Region.lexB .any l.toArray = true)
    (h : wpQuiet P l.toArray (fun w' => ∃ p : Later w, w' = p.w) (fun a' => ∀ w', (∃ p : Later w, w' = p.w) → Q .normal a' w') l a) : (Code.region id l.toArray true).wp P Q a w :=
  wp_region_quiet (C := fun w' => ∃ p : Later w, w' = p.w) hm hB ⟨⟨w.drew, (Below.refl _ w).drew⟩, rfl⟩ (by simpa using h)

theorem Calls.later_of {P : Program} {f : FuncId} {args : Array Value} {W : World} {p : Later W} {v : Value}
    (h : Calls P f args p.w fun e w' => e = .returned v ∧ Below p.w.heap.size p.w w') : Calls P f args p.w fun e w'' => e = .returned v ∧ ∃ q : Later W, w'' = q.w :=
  h.mono fun _ w' ⟨he, hb⟩ => ⟨he, ⟨w', p.h.trans (hb.mono p.h.size)⟩, rfl⟩
end Go.Proofs.Ytdocbgfpnaiijaa
