/-
  No cell of these rows narrows 'for every input' (looked for: loops, veiled, ifaces, maps, wideKeys, modest, calm, conditions, laid).
  DERIVED. THE GIVEN ROWS OF THIS SEAT. 6 by the template 'for every input the law returns true; each argument reads behind the call as it read before'; 0 by the template 'total and deterministic' (their statements: YtnbniaijholimaaTotals.lean).
  GIVEN WITH THE SEED: the statements are not yours to turn. If you find one false, say at which input.
  Laid BY PROGRAM, IN A SANDBOX (cutbox-rows.mjs): the forced cells as the released guide's own fill.sh prints them over the translation d8e042bc607cb9a1… (all of the seat's roots in one cut). By AI agents, Wed Nov 11 2026. No macro, syntax, notation, axiom, sorry.
-/
import Derived.Test.YtnbniaijholimaaChecked
import GoSem.Claim
import GoSem.ClaimJoined
import GoSem.ClaimMapViews
import Derived.JoinedTies
import Derived.KernelRfl
namespace Go.Proofs.Ytnbniaijholimaa
/- THE CELL 'sum', in the pinned program and in every row, IS THE sha256 OF THE DUMP (.gsa) THAT YtnbniaijholimaaProg.lean LOADS. Nothing in Lean hashes anything: it is a label: what it is worth is what the hold of that sum in a sandbox is worth. -/
noncomputable def Try.pinned : Pinned := { name := "ytnbniaijholimaa", sum := "d8e042bc607cb9a14c888c60b087f56328974ec554ed64fd5507092c5428a80e", checked := Try.checked }
namespace Rows
def none {H : Type} : Left H := { results := [], args := [] }

/-- 'topiaristlaw02.ReadStops': WHATEVER THE INPUT: true; the input reads as it did. -/
def readStopsSpec : ChangeSpec := { name := "readStops", fn := fun _ => fun
  | [d1, d2, d3] => { results := [.lit (.bool true)], args := [d1, d2, d3] }
  | _ => none }
def readStopsRow : OpenClaim := { program := "ytnbniaijholimaa", sum := "d8e042bc607cb9a14c888c60b087f56328974ec554ed64fd5507092c5428a80e", func := "topiarist/topiaristlaw02.ReadStops", spec := "readStops", inPlace := ["internal/bytealg.IndexByteString"], unfollowed := true, recurses := true, apart := false }
def ReadStopsSaid : Prop := readStopsRow.holds Try.pinned (OpenSpec.ofChange readStopsSpec)

/-- ITS FALSE NEIGHBOUR: 'it returns false'. Refute it at one input. -/
def readStopsWrong : ChangeSpec := { name := "readStops", fn := fun _ => fun
  | [d1, d2, d3] => { results := [.lit (.bool false)], args := [d1, d2, d3] }
  | _ => none }
def ReadStopsWrongFalsely : Prop := readStopsRow.holds Try.pinned (OpenSpec.ofChange readStopsWrong)

/-- 'topiaristlaw03.GrammarTells': WHATEVER THE INPUT: true; the input reads as it did. -/
def grammarTellsSpec : ChangeSpec := { name := "grammarTells", fn := fun _ => fun
  | [d1, d2, d3] => { results := [.lit (.bool true)], args := [d1, d2, d3] }
  | _ => none }
def grammarTellsRow : OpenClaim := { program := "ytnbniaijholimaa", sum := "d8e042bc607cb9a14c888c60b087f56328974ec554ed64fd5507092c5428a80e", func := "topiarist/topiaristlaw03.GrammarTells", spec := "grammarTells", inPlace := ["internal/bytealg.IndexByteString"], unfollowed := true, recurses := true, apart := false }
def GrammarTellsSaid : Prop := grammarTellsRow.holds Try.pinned (OpenSpec.ofChange grammarTellsSpec)

/-- ITS FALSE NEIGHBOUR: 'it returns false'. Refute it at one input. -/
def grammarTellsWrong : ChangeSpec := { name := "grammarTells", fn := fun _ => fun
  | [d1, d2, d3] => { results := [.lit (.bool false)], args := [d1, d2, d3] }
  | _ => none }
def GrammarTellsWrongFalsely : Prop := grammarTellsRow.holds Try.pinned (OpenSpec.ofChange grammarTellsWrong)

/-- 'topiaristlaw03.GrammarMay': WHATEVER THE INPUT: true; the input reads as it did. -/
def grammarMaySpec : ChangeSpec := { name := "grammarMay", fn := fun _ => fun
  | [d] => { results := [.lit (.bool true)], args := [d] }
  | _ => none }
def grammarMayRow : OpenClaim := { program := "ytnbniaijholimaa", sum := "d8e042bc607cb9a14c888c60b087f56328974ec554ed64fd5507092c5428a80e", func := "topiarist/topiaristlaw03.GrammarMay", spec := "grammarMay", inPlace := ["internal/bytealg.IndexByteString"], unfollowed := true, recurses := true, apart := false }
def GrammarMaySaid : Prop := grammarMayRow.holds Try.pinned (OpenSpec.ofChange grammarMaySpec)

/-- ITS FALSE NEIGHBOUR: 'it returns false'. Refute it at one input. -/
def grammarMayWrong : ChangeSpec := { name := "grammarMay", fn := fun _ => fun
  | [d] => { results := [.lit (.bool false)], args := [d] }
  | _ => none }
def GrammarMayWrongFalsely : Prop := grammarMayRow.holds Try.pinned (OpenSpec.ofChange grammarMayWrong)

/-- 'topiaristlaw03.GrammarAgain': WHATEVER THE INPUT: true; the input reads as it did. -/
def grammarAgainSpec : ChangeSpec := { name := "grammarAgain", fn := fun _ => fun
  | [d] => { results := [.lit (.bool true)], args := [d] }
  | _ => none }
def grammarAgainRow : OpenClaim := { program := "ytnbniaijholimaa", sum := "d8e042bc607cb9a14c888c60b087f56328974ec554ed64fd5507092c5428a80e", func := "topiarist/topiaristlaw03.GrammarAgain", spec := "grammarAgain", inPlace := ["internal/bytealg.IndexByteString"], unfollowed := true, recurses := true, apart := false }
def GrammarAgainSaid : Prop := grammarAgainRow.holds Try.pinned (OpenSpec.ofChange grammarAgainSpec)

/-- ITS FALSE NEIGHBOUR: 'it returns false'. Refute it at one input. -/
def grammarAgainWrong : ChangeSpec := { name := "grammarAgain", fn := fun _ => fun
  | [d] => { results := [.lit (.bool false)], args := [d] }
  | _ => none }
def GrammarAgainWrongFalsely : Prop := grammarAgainRow.holds Try.pinned (OpenSpec.ofChange grammarAgainWrong)

/-- 'topiaristlaw03.GrammarNames': WHATEVER THE INPUT: true; the input reads as it did. -/
def grammarNamesSpec : ChangeSpec := { name := "grammarNames", fn := fun _ => fun
  | [d1, d2] => { results := [.lit (.bool true)], args := [d1, d2] }
  | _ => none }
def grammarNamesRow : OpenClaim := { program := "ytnbniaijholimaa", sum := "d8e042bc607cb9a14c888c60b087f56328974ec554ed64fd5507092c5428a80e", func := "topiarist/topiaristlaw03.GrammarNames", spec := "grammarNames", inPlace := ["internal/bytealg.IndexByteString"], unfollowed := true, recurses := true, apart := false }
def GrammarNamesSaid : Prop := grammarNamesRow.holds Try.pinned (OpenSpec.ofChange grammarNamesSpec)

/-- ITS FALSE NEIGHBOUR: 'it returns false'. Refute it at one input. -/
def grammarNamesWrong : ChangeSpec := { name := "grammarNames", fn := fun _ => fun
  | [d1, d2] => { results := [.lit (.bool false)], args := [d1, d2] }
  | _ => none }
def GrammarNamesWrongFalsely : Prop := grammarNamesRow.holds Try.pinned (OpenSpec.ofChange grammarNamesWrong)

/-- 'topiaristlaw03.GrammarSpoilt': WHATEVER THE INPUT: true; the input reads as it did. -/
def grammarSpoiltSpec : ChangeSpec := { name := "grammarSpoilt", fn := fun _ => fun
  | [d1, d2] => { results := [.lit (.bool true)], args := [d1, d2] }
  | _ => none }
def grammarSpoiltRow : OpenClaim := { program := "ytnbniaijholimaa", sum := "d8e042bc607cb9a14c888c60b087f56328974ec554ed64fd5507092c5428a80e", func := "topiarist/topiaristlaw03.GrammarSpoilt", spec := "grammarSpoilt", inPlace := ["internal/bytealg.IndexByteString"], unfollowed := true, recurses := true, apart := false }
def GrammarSpoiltSaid : Prop := grammarSpoiltRow.holds Try.pinned (OpenSpec.ofChange grammarSpoiltSpec)

/-- ITS FALSE NEIGHBOUR: 'it returns false'. Refute it at one input. -/
def grammarSpoiltWrong : ChangeSpec := { name := "grammarSpoilt", fn := fun _ => fun
  | [d1, d2] => { results := [.lit (.bool false)], args := [d1, d2] }
  | _ => none }
def GrammarSpoiltWrongFalsely : Prop := grammarSpoiltRow.holds Try.pinned (OpenSpec.ofChange grammarSpoiltWrong)

/- THE SECOND FORM. 'bulk': how many values and letters a reading holds, each counted each time it is reached (what is shared counts as often as it is met; a slice's spare places count too). A statement '..UptoSaid' is the law's where the arguments, and the package variables that the reading takes, are together of bulk at most 1048576: NARROWER than '..Said'. Prove '..Said' where nothing that the law and all that it calls make is longer than what came in: it says more and counts as full. Else prove '..UptoSaid'. A law counts once. -/
mutual
def uptoBulk {H : Type} : DataW H → Nat
  | .lit (.string bytes) => bytes.length + 1
  | .lit _ => 1
  | .nil => 1
  | .ptr d => uptoBulk d + 1
  | .slice elems spare => uptoBulkAll elems + uptoBulkAll spare + 1
  | .agg parts => uptoBulkAll parts + 1
  | .iface _ d => uptoBulk d + 1
  | .map entries => uptoBulkEntries entries + 1
  | .held _ => 1
def uptoBulkAll {H : Type} : List (DataW H) → Nat
  | [] => 0
  | d :: r => uptoBulk d + uptoBulkAll r
def uptoBulkEntries {H : Type} : List (Lit × DataW H) → Nat
  | [] => 0
  | x :: r => uptoBulkEntry x + uptoBulkEntries r
def uptoBulkEntry {H : Type} : Lit × DataW H → Nat
  | (.string bytes, d) => bytes.length + uptoBulk d + 1
  | (_, d) => uptoBulk d + 1
 end
def uptoSmall : (H : Type) → List (DataW H) → Bool := fun _ ds => decide (uptoBulkAll ds ≤ 1048576)
def OpenSpec.upto (s : _root_.Go.ChangeSpec) : _root_.Go.OpenSpec := { _root_.Go.OpenSpec.ofChange s with cond := some uptoSmall }

/-- 'topiaristlaw02.ReadStops', WHERE WHAT IT READS IS OF BULK AT MOST 1048576: true; the input reads as it did. -/
def readStopsUptoRow : OpenClaim := { program := "ytnbniaijholimaa", sum := "d8e042bc607cb9a14c888c60b087f56328974ec554ed64fd5507092c5428a80e", func := "topiarist/topiaristlaw02.ReadStops", spec := "readStops", inPlace := ["internal/bytealg.IndexByteString"], unfollowed := true, recurses := true, apart := false, narrowed := true }
def ReadStopsUptoSaid : Prop := readStopsUptoRow.holds Try.pinned (OpenSpec.upto readStopsSpec)

/-- 'topiaristlaw03.GrammarTells', WHERE WHAT IT READS IS OF BULK AT MOST 1048576: true; the input reads as it did. -/
def grammarTellsUptoRow : OpenClaim := { program := "ytnbniaijholimaa", sum := "d8e042bc607cb9a14c888c60b087f56328974ec554ed64fd5507092c5428a80e", func := "topiarist/topiaristlaw03.GrammarTells", spec := "grammarTells", inPlace := ["internal/bytealg.IndexByteString"], unfollowed := true, recurses := true, apart := false, narrowed := true }
def GrammarTellsUptoSaid : Prop := grammarTellsUptoRow.holds Try.pinned (OpenSpec.upto grammarTellsSpec)

/-- 'topiaristlaw03.GrammarMay', WHERE WHAT IT READS IS OF BULK AT MOST 1048576: true; the input reads as it did. -/
def grammarMayUptoRow : OpenClaim := { program := "ytnbniaijholimaa", sum := "d8e042bc607cb9a14c888c60b087f56328974ec554ed64fd5507092c5428a80e", func := "topiarist/topiaristlaw03.GrammarMay", spec := "grammarMay", inPlace := ["internal/bytealg.IndexByteString"], unfollowed := true, recurses := true, apart := false, narrowed := true }
def GrammarMayUptoSaid : Prop := grammarMayUptoRow.holds Try.pinned (OpenSpec.upto grammarMaySpec)

/-- 'topiaristlaw03.GrammarAgain', WHERE WHAT IT READS IS OF BULK AT MOST 1048576: true; the input reads as it did. -/
def grammarAgainUptoRow : OpenClaim := { program := "ytnbniaijholimaa", sum := "d8e042bc607cb9a14c888c60b087f56328974ec554ed64fd5507092c5428a80e", func := "topiarist/topiaristlaw03.GrammarAgain", spec := "grammarAgain", inPlace := ["internal/bytealg.IndexByteString"], unfollowed := true, recurses := true, apart := false, narrowed := true }
def GrammarAgainUptoSaid : Prop := grammarAgainUptoRow.holds Try.pinned (OpenSpec.upto grammarAgainSpec)

/-- 'topiaristlaw03.GrammarNames', WHERE WHAT IT READS IS OF BULK AT MOST 1048576: true; the input reads as it did. -/
def grammarNamesUptoRow : OpenClaim := { program := "ytnbniaijholimaa", sum := "d8e042bc607cb9a14c888c60b087f56328974ec554ed64fd5507092c5428a80e", func := "topiarist/topiaristlaw03.GrammarNames", spec := "grammarNames", inPlace := ["internal/bytealg.IndexByteString"], unfollowed := true, recurses := true, apart := false, narrowed := true }
def GrammarNamesUptoSaid : Prop := grammarNamesUptoRow.holds Try.pinned (OpenSpec.upto grammarNamesSpec)

/-- 'topiaristlaw03.GrammarSpoilt', WHERE WHAT IT READS IS OF BULK AT MOST 1048576: true; the input reads as it did. -/
def grammarSpoiltUptoRow : OpenClaim := { program := "ytnbniaijholimaa", sum := "d8e042bc607cb9a14c888c60b087f56328974ec554ed64fd5507092c5428a80e", func := "topiarist/topiaristlaw03.GrammarSpoilt", spec := "grammarSpoilt", inPlace := ["internal/bytealg.IndexByteString"], unfollowed := true, recurses := true, apart := false, narrowed := true }
def GrammarSpoiltUptoSaid : Prop := grammarSpoiltUptoRow.holds Try.pinned (OpenSpec.upto grammarSpoiltSpec)

end Rows
end Go.Proofs.Ytnbniaijholimaa
