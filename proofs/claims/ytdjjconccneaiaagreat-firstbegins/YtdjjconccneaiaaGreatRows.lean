/-
  No cell of these rows narrows 'for every input' (looked for: loops, veiled, ifaces, maps, wideKeys, modest, calm, conditions, laid).
  DERIVED. THE GIVEN ROWS OF THIS SEAT. 4 by the template 'for every input the law returns true; each argument reads behind the call as it read before'; 0 by the template 'total and deterministic' (their statements: YtdjjconccneaiaaGreatTotals.lean).
  GIVEN WITH THE SEED: the statements are not yours to turn. If you find one false, say at which input.
  Laid BY PROGRAM, IN A SANDBOX (cutbox-rows.mjs): the forced cells as the released guide's own fill.sh prints them over the translation c799cfa45a2c2bd8… (all of the seat's roots in one cut). By AI agents, Wed Nov 11 2026. No macro, syntax, notation, axiom, sorry.
-/
import Derived.Test.YtdjjconccneaiaaGreatChecked
import GoSem.Claim
import GoSem.ClaimJoined
import GoSem.ClaimMapViews
import Derived.JoinedTies
import Derived.KernelRfl
namespace Go.Proofs.YtdjjconccneaiaaGreat
/- THE CELL 'sum', in the pinned program and in every row, IS THE sha256 OF THE DUMP (.gsa) THAT YtdjjconccneaiaaGreatProg.lean LOADS. Nothing in Lean hashes anything: it is a label: what it is worth is what the hold of that sum in a sandbox is worth. -/
noncomputable def Tryz.pinned : Pinned := { name := "ytdjjconccneaiaagreat", sum := "c799cfa45a2c2bd858a3bb41453bc909a8bca302d7e3844e799652d386fae9bd", checked := Tryz.checked }
namespace Rows
def none {H : Type} : Left H := { results := [], args := [] }

/-- 'topiaristlaw08.FirstTells': WHATEVER THE INPUT: true; the input reads as it did. -/
def firstTellsSpec : ChangeSpec := { name := "firstTells", fn := fun _ => fun
  | [d1, d2] => { results := [.lit (.bool true)], args := [d1, d2] }
  | _ => none }
def firstTellsRow : OpenClaim := { program := "ytdjjconccneaiaagreat", sum := "c799cfa45a2c2bd858a3bb41453bc909a8bca302d7e3844e799652d386fae9bd", func := "topiarist/topiaristlaw08.FirstTells", spec := "firstTells", inPlace := ["internal/bytealg.IndexByteString"], unfollowed := true, recurses := true, apart := false }
def FirstTellsSaid : Prop := firstTellsRow.holds Tryz.pinned (OpenSpec.ofChange firstTellsSpec)

/-- ITS FALSE NEIGHBOUR: 'it returns false'. Refute it at one input. -/
def firstTellsWrong : ChangeSpec := { name := "firstTells", fn := fun _ => fun
  | [d1, d2] => { results := [.lit (.bool false)], args := [d1, d2] }
  | _ => none }
def FirstTellsWrongFalsely : Prop := firstTellsRow.holds Tryz.pinned (OpenSpec.ofChange firstTellsWrong)

/-- 'topiaristlaw08.FirstRules': WHATEVER THE INPUT: true; the input reads as it did. -/
def firstRulesSpec : ChangeSpec := { name := "firstRules", fn := fun _ => fun
  | [d1, d2, d3] => { results := [.lit (.bool true)], args := [d1, d2, d3] }
  | _ => none }
def firstRulesRow : OpenClaim := { program := "ytdjjconccneaiaagreat", sum := "c799cfa45a2c2bd858a3bb41453bc909a8bca302d7e3844e799652d386fae9bd", func := "topiarist/topiaristlaw08.FirstRules", spec := "firstRules", inPlace := ["internal/bytealg.IndexByteString"], unfollowed := true, recurses := true, apart := false }
def FirstRulesSaid : Prop := firstRulesRow.holds Tryz.pinned (OpenSpec.ofChange firstRulesSpec)

/-- ITS FALSE NEIGHBOUR: 'it returns false'. Refute it at one input. -/
def firstRulesWrong : ChangeSpec := { name := "firstRules", fn := fun _ => fun
  | [d1, d2, d3] => { results := [.lit (.bool false)], args := [d1, d2, d3] }
  | _ => none }
def FirstRulesWrongFalsely : Prop := firstRulesRow.holds Tryz.pinned (OpenSpec.ofChange firstRulesWrong)

/-- 'topiaristlaw08.FirstBegins': WHATEVER THE INPUT: true; the input reads as it did. -/
def firstBeginsSpec : ChangeSpec := { name := "firstBegins", fn := fun _ => fun
  | [d1, d2] => { results := [.lit (.bool true)], args := [d1, d2] }
  | _ => none }
def firstBeginsRow : OpenClaim := { program := "ytdjjconccneaiaagreat", sum := "c799cfa45a2c2bd858a3bb41453bc909a8bca302d7e3844e799652d386fae9bd", func := "topiarist/topiaristlaw08.FirstBegins", spec := "firstBegins", inPlace := ["internal/bytealg.IndexByteString"], unfollowed := true, recurses := true, apart := false }
def FirstBeginsSaid : Prop := firstBeginsRow.holds Tryz.pinned (OpenSpec.ofChange firstBeginsSpec)

/-- ITS FALSE NEIGHBOUR: 'it returns false'. Refute it at one input. -/
def firstBeginsWrong : ChangeSpec := { name := "firstBegins", fn := fun _ => fun
  | [d1, d2] => { results := [.lit (.bool false)], args := [d1, d2] }
  | _ => none }
def FirstBeginsWrongFalsely : Prop := firstBeginsRow.holds Tryz.pinned (OpenSpec.ofChange firstBeginsWrong)

/-- 'topiaristlaw08.FirstMore': WHATEVER THE INPUT: true; the input reads as it did. -/
def firstMoreSpec : ChangeSpec := { name := "firstMore", fn := fun _ => fun
  | [d1, d2, d3] => { results := [.lit (.bool true)], args := [d1, d2, d3] }
  | _ => none }
def firstMoreRow : OpenClaim := { program := "ytdjjconccneaiaagreat", sum := "c799cfa45a2c2bd858a3bb41453bc909a8bca302d7e3844e799652d386fae9bd", func := "topiarist/topiaristlaw08.FirstMore", spec := "firstMore", inPlace := ["internal/bytealg.IndexByteString"], unfollowed := true, recurses := true, apart := false }
def FirstMoreSaid : Prop := firstMoreRow.holds Tryz.pinned (OpenSpec.ofChange firstMoreSpec)

/-- ITS FALSE NEIGHBOUR: 'it returns false'. Refute it at one input. -/
def firstMoreWrong : ChangeSpec := { name := "firstMore", fn := fun _ => fun
  | [d1, d2, d3] => { results := [.lit (.bool false)], args := [d1, d2, d3] }
  | _ => none }
def FirstMoreWrongFalsely : Prop := firstMoreRow.holds Tryz.pinned (OpenSpec.ofChange firstMoreWrong)

/- THE SECOND FORM. 'bulk': how many values and letters a reading holds, each counted each time it is reached (what is shared counts as often as it is met; a slice's spare places count too). A statement '..UptoSaid' is the law's where the arguments, and the package variables that the reading takes, are together of bulk at most 1048576: NARROWER than '..Said'. Prove '..Said' where nothing that the law and all that it calls make is longer than what came in: it says more and counts as full. Else prove '..UptoSaid'. A law counts once. -/
mutual
def uptoBulk {H : Type} : DataW H → Nat
  | .lit (.string bytes) => bytes.length + 1
  | .lit _ => 1
  | .nil => 1
  | .ptr d => uptoBulk d + 1
  | .slice elems spare => uptoBulkAll elems + uptoBulkAll spare + 1
  | .agg parts => uptoBulkAll parts + 1
  | .iface _ d => uptoBulk d + 1
  | .map entries => uptoBulkEntries entries + 1
  | .held _ => 1
def uptoBulkAll {H : Type} : List (DataW H) → Nat
  | [] => 0
  | d :: r => uptoBulk d + uptoBulkAll r
def uptoBulkEntries {H : Type} : List (Lit × DataW H) → Nat
  | [] => 0
  | x :: r => uptoBulkEntry x + uptoBulkEntries r
def uptoBulkEntry {H : Type} : Lit × DataW H → Nat
  | (.string bytes, d) => bytes.length + uptoBulk d + 1
  | (_, d) => uptoBulk d + 1
 end
def uptoSmall : (H : Type) → List (DataW H) → Bool := fun _ ds => decide (uptoBulkAll ds ≤ 1048576)
def OpenSpec.upto (s : _root_.Go.ChangeSpec) : _root_.Go.OpenSpec := { _root_.Go.OpenSpec.ofChange s with cond := some uptoSmall }

/-- 'topiaristlaw08.FirstTells', WHERE WHAT IT READS IS OF BULK AT MOST 1048576: true; the input reads as it did. -/
def firstTellsUptoRow : OpenClaim := { program := "ytdjjconccneaiaagreat", sum := "c799cfa45a2c2bd858a3bb41453bc909a8bca302d7e3844e799652d386fae9bd", func := "topiarist/topiaristlaw08.FirstTells", spec := "firstTells", inPlace := ["internal/bytealg.IndexByteString"], unfollowed := true, recurses := true, apart := false, narrowed := true }
def FirstTellsUptoSaid : Prop := firstTellsUptoRow.holds Tryz.pinned (OpenSpec.upto firstTellsSpec)

/-- 'topiaristlaw08.FirstRules', WHERE WHAT IT READS IS OF BULK AT MOST 1048576: true; the input reads as it did. -/
def firstRulesUptoRow : OpenClaim := { program := "ytdjjconccneaiaagreat", sum := "c799cfa45a2c2bd858a3bb41453bc909a8bca302d7e3844e799652d386fae9bd", func := "topiarist/topiaristlaw08.FirstRules", spec := "firstRules", inPlace := ["internal/bytealg.IndexByteString"], unfollowed := true, recurses := true, apart := false, narrowed := true }
def FirstRulesUptoSaid : Prop := firstRulesUptoRow.holds Tryz.pinned (OpenSpec.upto firstRulesSpec)

/-- 'topiaristlaw08.FirstBegins', WHERE WHAT IT READS IS OF BULK AT MOST 1048576: true; the input reads as it did. -/
def firstBeginsUptoRow : OpenClaim := { program := "ytdjjconccneaiaagreat", sum := "c799cfa45a2c2bd858a3bb41453bc909a8bca302d7e3844e799652d386fae9bd", func := "topiarist/topiaristlaw08.FirstBegins", spec := "firstBegins", inPlace := ["internal/bytealg.IndexByteString"], unfollowed := true, recurses := true, apart := false, narrowed := true }
def FirstBeginsUptoSaid : Prop := firstBeginsUptoRow.holds Tryz.pinned (OpenSpec.upto firstBeginsSpec)

/-- 'topiaristlaw08.FirstMore', WHERE WHAT IT READS IS OF BULK AT MOST 1048576: true; the input reads as it did. -/
def firstMoreUptoRow : OpenClaim := { program := "ytdjjconccneaiaagreat", sum := "c799cfa45a2c2bd858a3bb41453bc909a8bca302d7e3844e799652d386fae9bd", func := "topiarist/topiaristlaw08.FirstMore", spec := "firstMore", inPlace := ["internal/bytealg.IndexByteString"], unfollowed := true, recurses := true, apart := false, narrowed := true }
def FirstMoreUptoSaid : Prop := firstMoreUptoRow.holds Tryz.pinned (OpenSpec.upto firstMoreSpec)

end Rows
end Go.Proofs.YtdjjconccneaiaaGreat
