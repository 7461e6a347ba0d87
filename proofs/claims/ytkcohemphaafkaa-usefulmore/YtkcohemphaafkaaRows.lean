/-
  No cell of these rows narrows 'for every input' (looked for: loops, veiled, ifaces, maps, wideKeys, modest, calm, conditions, laid).
  DERIVED. THE GIVEN ROWS OF THIS SEAT. 3 by the template 'for every input the law returns true; each argument reads behind the call as it read before'; 0 by the template 'total and deterministic' (their statements: YtkcohemphaafkaaTotals.lean).
  GIVEN WITH THE SEED: the statements are not yours to turn. If you find one false, say at which input.
  Laid BY PROGRAM, IN A SANDBOX (cutbox-rows.mjs): the forced cells as the released guide's own fill.sh prints them over the translation 783126fe62b48d17… (all of the seat's roots in one cut). By AI agents, Wed Nov 11 2026. No macro, syntax, notation, axiom, sorry.
-/
import Derived.Test.YtkcohemphaafkaaChecked
import GoSem.Claim
import GoSem.ClaimJoined
import GoSem.ClaimMapViews
import Derived.JoinedTies
import Derived.KernelRfl
namespace Go.Proofs.Ytkcohemphaafkaa
/- THE CELL 'sum', in the pinned program and in every row, IS THE sha256 OF THE DUMP (.gsa) THAT YtkcohemphaafkaaProg.lean LOADS. Nothing in Lean hashes anything: it is a label: what it is worth is what the hold of that sum in a sandbox is worth. -/
noncomputable def Try.pinned : Pinned := { name := "ytkcohemphaafkaa", sum := "783126fe62b48d178932be380f1e02c6bc662889ae8eacd9455490ce6b1c8f95", checked := Try.checked }
namespace Rows
def none {H : Type} : Left H := { results := [], args := [] }

/-- 'topiaristlaw07.UsefulTells': WHATEVER THE INPUT: true; the input reads as it did. -/
def usefulTellsSpec : ChangeSpec := { name := "usefulTells", fn := fun _ => fun
  | [d1, d2] => { results := [.lit (.bool true)], args := [d1, d2] }
  | _ => none }
def usefulTellsRow : OpenClaim := { program := "ytkcohemphaafkaa", sum := "783126fe62b48d178932be380f1e02c6bc662889ae8eacd9455490ce6b1c8f95", func := "topiarist/topiaristlaw07.UsefulTells", spec := "usefulTells", inPlace := ["internal/bytealg.IndexByteString"], unfollowed := true, recurses := true, apart := false }
def UsefulTellsSaid : Prop := usefulTellsRow.holds Try.pinned (OpenSpec.ofChange usefulTellsSpec)

/-- ITS FALSE NEIGHBOUR: 'it returns false'. Refute it at one input. -/
def usefulTellsWrong : ChangeSpec := { name := "usefulTells", fn := fun _ => fun
  | [d1, d2] => { results := [.lit (.bool false)], args := [d1, d2] }
  | _ => none }
def UsefulTellsWrongFalsely : Prop := usefulTellsRow.holds Try.pinned (OpenSpec.ofChange usefulTellsWrong)

/-- 'topiaristlaw07.UsefulHolds': WHATEVER THE INPUT: true; the input reads as it did. -/
def usefulHoldsSpec : ChangeSpec := { name := "usefulHolds", fn := fun _ => fun
  | [d1, d2] => { results := [.lit (.bool true)], args := [d1, d2] }
  | _ => none }
def usefulHoldsRow : OpenClaim := { program := "ytkcohemphaafkaa", sum := "783126fe62b48d178932be380f1e02c6bc662889ae8eacd9455490ce6b1c8f95", func := "topiarist/topiaristlaw07.UsefulHolds", spec := "usefulHolds", inPlace := ["internal/bytealg.IndexByteString"], unfollowed := true, recurses := true, apart := false }
def UsefulHoldsSaid : Prop := usefulHoldsRow.holds Try.pinned (OpenSpec.ofChange usefulHoldsSpec)

/-- ITS FALSE NEIGHBOUR: 'it returns false'. Refute it at one input. -/
def usefulHoldsWrong : ChangeSpec := { name := "usefulHolds", fn := fun _ => fun
  | [d1, d2] => { results := [.lit (.bool false)], args := [d1, d2] }
  | _ => none }
def UsefulHoldsWrongFalsely : Prop := usefulHoldsRow.holds Try.pinned (OpenSpec.ofChange usefulHoldsWrong)

/-- 'topiaristlaw07.UsefulMore': WHATEVER THE INPUT: true; the input reads as it did. -/
def usefulMoreSpec : ChangeSpec := { name := "usefulMore", fn := fun _ => fun
  | [d1, d2, d3] => { results := [.lit (.bool true)], args := [d1, d2, d3] }
  | _ => none }
def usefulMoreRow : OpenClaim := { program := "ytkcohemphaafkaa", sum := "783126fe62b48d178932be380f1e02c6bc662889ae8eacd9455490ce6b1c8f95", func := "topiarist/topiaristlaw07.UsefulMore", spec := "usefulMore", inPlace := ["internal/bytealg.IndexByteString"], unfollowed := true, recurses := true, apart := false }
def UsefulMoreSaid : Prop := usefulMoreRow.holds Try.pinned (OpenSpec.ofChange usefulMoreSpec)

/-- ITS FALSE NEIGHBOUR: 'it returns false'. Refute it at one input. -/
def usefulMoreWrong : ChangeSpec := { name := "usefulMore", fn := fun _ => fun
  | [d1, d2, d3] => { results := [.lit (.bool false)], args := [d1, d2, d3] }
  | _ => none }
def UsefulMoreWrongFalsely : Prop := usefulMoreRow.holds Try.pinned (OpenSpec.ofChange usefulMoreWrong)

/- THE SECOND FORM. 'bulk': how many values and letters a reading holds, each counted each time it is reached (what is shared counts as often as it is met; a slice's spare places count too). A statement '..UptoSaid' is the law's where the arguments, and the package variables that the reading takes, are together of bulk at most 1048576: NARROWER than '..Said'. Prove '..Said' where nothing that the law and all that it calls make is longer than what came in: it says more and counts as full. Else prove '..UptoSaid'. A law counts once. -/
mutual
def uptoBulk {H : Type} : DataW H → Nat
  | .lit (.string bytes) => bytes.length + 1
  | .lit _ => 1
  | .nil => 1
  | .ptr d => uptoBulk d + 1
  | .slice elems spare => uptoBulkAll elems + uptoBulkAll spare + 1
  | .agg parts => uptoBulkAll parts + 1
  | .iface _ d => uptoBulk d + 1
  | .map entries => uptoBulkEntries entries + 1
  | .held _ => 1
def uptoBulkAll {H : Type} : List (DataW H) → Nat
  | [] => 0
  | d :: r => uptoBulk d + uptoBulkAll r
def uptoBulkEntries {H : Type} : List (Lit × DataW H) → Nat
  | [] => 0
  | x :: r => uptoBulkEntry x + uptoBulkEntries r
def uptoBulkEntry {H : Type} : Lit × DataW H → Nat
  | (.string bytes, d) => bytes.length + uptoBulk d + 1
  | (_, d) => uptoBulk d + 1
 end
def uptoSmall : (H : Type) → List (DataW H) → Bool := fun _ ds => decide (uptoBulkAll ds ≤ 1048576)
def OpenSpec.upto (s : _root_.Go.ChangeSpec) : _root_.Go.OpenSpec := { _root_.Go.OpenSpec.ofChange s with cond := some uptoSmall }

/-- 'topiaristlaw07.UsefulTells', WHERE WHAT IT READS IS OF BULK AT MOST 1048576: true; the input reads as it did. -/
def usefulTellsUptoRow : OpenClaim := { program := "ytkcohemphaafkaa", sum := "783126fe62b48d178932be380f1e02c6bc662889ae8eacd9455490ce6b1c8f95", func := "topiarist/topiaristlaw07.UsefulTells", spec := "usefulTells", inPlace := ["internal/bytealg.IndexByteString"], unfollowed := true, recurses := true, apart := false, narrowed := true }
def UsefulTellsUptoSaid : Prop := usefulTellsUptoRow.holds Try.pinned (OpenSpec.upto usefulTellsSpec)

/-- 'topiaristlaw07.UsefulHolds', WHERE WHAT IT READS IS OF BULK AT MOST 1048576: true; the input reads as it did. -/
def usefulHoldsUptoRow : OpenClaim := { program := "ytkcohemphaafkaa", sum := "783126fe62b48d178932be380f1e02c6bc662889ae8eacd9455490ce6b1c8f95", func := "topiarist/topiaristlaw07.UsefulHolds", spec := "usefulHolds", inPlace := ["internal/bytealg.IndexByteString"], unfollowed := true, recurses := true, apart := false, narrowed := true }
def UsefulHoldsUptoSaid : Prop := usefulHoldsUptoRow.holds Try.pinned (OpenSpec.upto usefulHoldsSpec)

/-- 'topiaristlaw07.UsefulMore', WHERE WHAT IT READS IS OF BULK AT MOST 1048576: true; the input reads as it did. -/
def usefulMoreUptoRow : OpenClaim := { program := "ytkcohemphaafkaa", sum := "783126fe62b48d178932be380f1e02c6bc662889ae8eacd9455490ce6b1c8f95", func := "topiarist/topiaristlaw07.UsefulMore", spec := "usefulMore", inPlace := ["internal/bytealg.IndexByteString"], unfollowed := true, recurses := true, apart := false, narrowed := true }
def UsefulMoreUptoSaid : Prop := usefulMoreUptoRow.holds Try.pinned (OpenSpec.upto usefulMoreSpec)

end Rows
end Go.Proofs.Ytkcohemphaafkaa
