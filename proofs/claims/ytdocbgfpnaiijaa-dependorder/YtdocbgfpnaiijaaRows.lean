/-
  No cell of these rows narrows 'for every input' (looked for: loops, veiled, ifaces, maps, wideKeys, modest, calm, conditions, laid).
  DERIVED. THE GIVEN ROWS OF THIS SEAT. 5 by the template 'for every input the law returns true; each argument reads behind the call as it read before'; 0 by the template 'total and deterministic' (their statements: YtdocbgfpnaiijaaTotals.lean).
  GIVEN WITH THE SEED: the statements are not yours to turn. If you find one false, say at which input.
  Laid BY PROGRAM, IN A SANDBOX (cutbox-rows.mjs): the forced cells as the released guide's own fill.sh prints them over the translation acfc85cd2a9cd523… (all of the seat's roots in one cut). By AI agents, Wed Nov 11 2026. No macro, syntax, notation, axiom, sorry.
-/
import Derived.Test.YtdocbgfpnaiijaaChecked
import GoSem.Claim
import GoSem.ClaimJoined
import GoSem.ClaimMapViews
import Derived.JoinedTies
import Derived.KernelRfl
namespace Go.Proofs.Ytdocbgfpnaiijaa
/- THE CELL 'sum', in the pinned program and in every row, IS THE sha256 OF THE DUMP (.gsa) THAT YtdocbgfpnaiijaaProg.lean LOADS. Nothing in Lean hashes anything: it is a label: what it is worth is what the hold of that sum in a sandbox is worth. -/
noncomputable def Try.pinned : Pinned := { name := "ytdocbgfpnaiijaa", sum := "acfc85cd2a9cd52318e438854362d76feb3640f2ad2141261f40b65f2608c2d4", checked := Try.checked }
namespace Rows
def none {H : Type} : Left H := { results := [], args := [] }

/-- 'topiaristlaw09.FollowLast': WHATEVER THE INPUT: true; the input reads as it did. -/
def followLastSpec : ChangeSpec := { name := "followLast", fn := fun _ => fun
  | [d] => { results := [.lit (.bool true)], args := [d] }
  | _ => none }
def followLastRow : OpenClaim := { program := "ytdocbgfpnaiijaa", sum := "acfc85cd2a9cd52318e438854362d76feb3640f2ad2141261f40b65f2608c2d4", func := "topiarist/topiaristlaw09.FollowLast", spec := "followLast", inPlace := ["internal/bytealg.IndexByteString"], unfollowed := true, recurses := true, apart := false }
def FollowLastSaid : Prop := followLastRow.holds Try.pinned (OpenSpec.ofChange followLastSpec)

/-- ITS FALSE NEIGHBOUR: 'it returns false'. Refute it at one input. -/
def followLastWrong : ChangeSpec := { name := "followLast", fn := fun _ => fun
  | [d] => { results := [.lit (.bool false)], args := [d] }
  | _ => none }
def FollowLastWrongFalsely : Prop := followLastRow.holds Try.pinned (OpenSpec.ofChange followLastWrong)

/-- 'topiaristlaw10.DependTells': WHATEVER THE INPUT: true; the input reads as it did. -/
def dependTellsSpec : ChangeSpec := { name := "dependTells", fn := fun _ => fun
  | [d1, d2] => { results := [.lit (.bool true)], args := [d1, d2] }
  | _ => none }
def dependTellsRow : OpenClaim := { program := "ytdocbgfpnaiijaa", sum := "acfc85cd2a9cd52318e438854362d76feb3640f2ad2141261f40b65f2608c2d4", func := "topiarist/topiaristlaw10.DependTells", spec := "dependTells", inPlace := ["internal/bytealg.IndexByteString"], unfollowed := true, recurses := true, apart := false }
def DependTellsSaid : Prop := dependTellsRow.holds Try.pinned (OpenSpec.ofChange dependTellsSpec)

/-- ITS FALSE NEIGHBOUR: 'it returns false'. Refute it at one input. -/
def dependTellsWrong : ChangeSpec := { name := "dependTells", fn := fun _ => fun
  | [d1, d2] => { results := [.lit (.bool false)], args := [d1, d2] }
  | _ => none }
def DependTellsWrongFalsely : Prop := dependTellsRow.holds Try.pinned (OpenSpec.ofChange dependTellsWrong)

/-- 'topiaristlaw10.DependHolds': WHATEVER THE INPUT: true; the input reads as it did. -/
def dependHoldsSpec : ChangeSpec := { name := "dependHolds", fn := fun _ => fun
  | [d1, d2, d3] => { results := [.lit (.bool true)], args := [d1, d2, d3] }
  | _ => none }
def dependHoldsRow : OpenClaim := { program := "ytdocbgfpnaiijaa", sum := "acfc85cd2a9cd52318e438854362d76feb3640f2ad2141261f40b65f2608c2d4", func := "topiarist/topiaristlaw10.DependHolds", spec := "dependHolds", inPlace := ["internal/bytealg.IndexByteString"], unfollowed := true, recurses := true, apart := false }
def DependHoldsSaid : Prop := dependHoldsRow.holds Try.pinned (OpenSpec.ofChange dependHoldsSpec)

/-- ITS FALSE NEIGHBOUR: 'it returns false'. Refute it at one input. -/
def dependHoldsWrong : ChangeSpec := { name := "dependHolds", fn := fun _ => fun
  | [d1, d2, d3] => { results := [.lit (.bool false)], args := [d1, d2, d3] }
  | _ => none }
def DependHoldsWrongFalsely : Prop := dependHoldsRow.holds Try.pinned (OpenSpec.ofChange dependHoldsWrong)

/-- 'topiaristlaw10.DependOrder': WHATEVER THE INPUT: true; the input reads as it did. -/
def dependOrderSpec : ChangeSpec := { name := "dependOrder", fn := fun _ => fun
  | [d1, d2] => { results := [.lit (.bool true)], args := [d1, d2] }
  | _ => none }
def dependOrderRow : OpenClaim := { program := "ytdocbgfpnaiijaa", sum := "acfc85cd2a9cd52318e438854362d76feb3640f2ad2141261f40b65f2608c2d4", func := "topiarist/topiaristlaw10.DependOrder", spec := "dependOrder", inPlace := ["internal/bytealg.IndexByteString"], unfollowed := true, recurses := true, apart := false }
def DependOrderSaid : Prop := dependOrderRow.holds Try.pinned (OpenSpec.ofChange dependOrderSpec)

/-- ITS FALSE NEIGHBOUR: 'it returns false'. Refute it at one input. -/
def dependOrderWrong : ChangeSpec := { name := "dependOrder", fn := fun _ => fun
  | [d1, d2] => { results := [.lit (.bool false)], args := [d1, d2] }
  | _ => none }
def DependOrderWrongFalsely : Prop := dependOrderRow.holds Try.pinned (OpenSpec.ofChange dependOrderWrong)

/-- 'topiaristlaw10.DependSpots': WHATEVER THE INPUT: true; the input reads as it did. -/
def dependSpotsSpec : ChangeSpec := { name := "dependSpots", fn := fun _ => fun
  | [d1, d2] => { results := [.lit (.bool true)], args := [d1, d2] }
  | _ => none }
def dependSpotsRow : OpenClaim := { program := "ytdocbgfpnaiijaa", sum := "acfc85cd2a9cd52318e438854362d76feb3640f2ad2141261f40b65f2608c2d4", func := "topiarist/topiaristlaw10.DependSpots", spec := "dependSpots", inPlace := ["internal/bytealg.IndexByteString"], unfollowed := true, recurses := true, apart := false }
def DependSpotsSaid : Prop := dependSpotsRow.holds Try.pinned (OpenSpec.ofChange dependSpotsSpec)

/-- ITS FALSE NEIGHBOUR: 'it returns false'. Refute it at one input. -/
def dependSpotsWrong : ChangeSpec := { name := "dependSpots", fn := fun _ => fun
  | [d1, d2] => { results := [.lit (.bool false)], args := [d1, d2] }
  | _ => none }
def DependSpotsWrongFalsely : Prop := dependSpotsRow.holds Try.pinned (OpenSpec.ofChange dependSpotsWrong)

/- THE SECOND FORM. 'bulk': how many values and letters a reading holds, each counted each time it is reached (what is shared counts as often as it is met; a slice's spare places count too). A statement '..UptoSaid' is the law's where the arguments, and the package variables that the reading takes, are together of bulk at most 1048576: NARROWER than '..Said'. Prove '..Said' where nothing that the law and all that it calls make is longer than what came in: it says more and counts as full. Else prove '..UptoSaid'. A law counts once. -/
mutual
def uptoBulk {H : Type} : DataW H → Nat
  | .lit (.string bytes) => bytes.length + 1
  | .lit _ => 1
  | .nil => 1
  | .ptr d => uptoBulk d + 1
  | .slice elems spare => uptoBulkAll elems + uptoBulkAll spare + 1
  | .agg parts => uptoBulkAll parts + 1
  | .iface _ d => uptoBulk d + 1
  | .map entries => uptoBulkEntries entries + 1
  | .held _ => 1
def uptoBulkAll {H : Type} : List (DataW H) → Nat
  | [] => 0
  | d :: r => uptoBulk d + uptoBulkAll r
def uptoBulkEntries {H : Type} : List (Lit × DataW H) → Nat
  | [] => 0
  | x :: r => uptoBulkEntry x + uptoBulkEntries r
def uptoBulkEntry {H : Type} : Lit × DataW H → Nat
  | (.string bytes, d) => bytes.length + uptoBulk d + 1
  | (_, d) => uptoBulk d + 1
 end
def uptoSmall : (H : Type) → List (DataW H) → Bool := fun _ ds => decide (uptoBulkAll ds ≤ 1048576)
def OpenSpec.upto (s : _root_.Go.ChangeSpec) : _root_.Go.OpenSpec := { _root_.Go.OpenSpec.ofChange s with cond := some uptoSmall }

/-- 'topiaristlaw09.FollowLast', WHERE WHAT IT READS IS OF BULK AT MOST 1048576: true; the input reads as it did. -/
def followLastUptoRow : OpenClaim := { program := "ytdocbgfpnaiijaa", sum := "acfc85cd2a9cd52318e438854362d76feb3640f2ad2141261f40b65f2608c2d4", func := "topiarist/topiaristlaw09.FollowLast", spec := "followLast", inPlace := ["internal/bytealg.IndexByteString"], unfollowed := true, recurses := true, apart := false, narrowed := true }
def FollowLastUptoSaid : Prop := followLastUptoRow.holds Try.pinned (OpenSpec.upto followLastSpec)

/-- 'topiaristlaw10.DependTells', WHERE WHAT IT READS IS OF BULK AT MOST 1048576: true; the input reads as it did. -/
def dependTellsUptoRow : OpenClaim := { program := "ytdocbgfpnaiijaa", sum := "acfc85cd2a9cd52318e438854362d76feb3640f2ad2141261f40b65f2608c2d4", func := "topiarist/topiaristlaw10.DependTells", spec := "dependTells", inPlace := ["internal/bytealg.IndexByteString"], unfollowed := true, recurses := true, apart := false, narrowed := true }
def DependTellsUptoSaid : Prop := dependTellsUptoRow.holds Try.pinned (OpenSpec.upto dependTellsSpec)

/-- 'topiaristlaw10.DependHolds', WHERE WHAT IT READS IS OF BULK AT MOST 1048576: true; the input reads as it did. -/
def dependHoldsUptoRow : OpenClaim := { program := "ytdocbgfpnaiijaa", sum := "acfc85cd2a9cd52318e438854362d76feb3640f2ad2141261f40b65f2608c2d4", func := "topiarist/topiaristlaw10.DependHolds", spec := "dependHolds", inPlace := ["internal/bytealg.IndexByteString"], unfollowed := true, recurses := true, apart := false, narrowed := true }
def DependHoldsUptoSaid : Prop := dependHoldsUptoRow.holds Try.pinned (OpenSpec.upto dependHoldsSpec)

/-- 'topiaristlaw10.DependOrder', WHERE WHAT IT READS IS OF BULK AT MOST 1048576: true; the input reads as it did. -/
def dependOrderUptoRow : OpenClaim := { program := "ytdocbgfpnaiijaa", sum := "acfc85cd2a9cd52318e438854362d76feb3640f2ad2141261f40b65f2608c2d4", func := "topiarist/topiaristlaw10.DependOrder", spec := "dependOrder", inPlace := ["internal/bytealg.IndexByteString"], unfollowed := true, recurses := true, apart := false, narrowed := true }
def DependOrderUptoSaid : Prop := dependOrderUptoRow.holds Try.pinned (OpenSpec.upto dependOrderSpec)

/-- 'topiaristlaw10.DependSpots', WHERE WHAT IT READS IS OF BULK AT MOST 1048576: true; the input reads as it did. -/
def dependSpotsUptoRow : OpenClaim := { program := "ytdocbgfpnaiijaa", sum := "acfc85cd2a9cd52318e438854362d76feb3640f2ad2141261f40b65f2608c2d4", func := "topiarist/topiaristlaw10.DependSpots", spec := "dependSpots", inPlace := ["internal/bytealg.IndexByteString"], unfollowed := true, recurses := true, apart := false, narrowed := true }
def DependSpotsUptoSaid : Prop := dependSpotsUptoRow.holds Try.pinned (OpenSpec.upto dependSpotsSpec)

end Rows
end Go.Proofs.Ytdocbgfpnaiijaa
