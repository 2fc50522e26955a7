/-
  No cell of these rows narrows 'for every input' (looked for: loops, veiled, ifaces, maps, wideKeys, modest, calm, conditions, laid).
  DERIVED. THE GIVEN ROWS OF THIS SEAT. 14 by the template 'for every input the law returns true; each argument reads behind the call as it read before'; 0 by the template 'total and deterministic' (their statements: YtgockgehbnekbaaTotals.lean).
  GIVEN WITH THE SEED: the statements are not yours to turn. If you find one false, say at which input.
  Laid BY PROGRAM, IN A SANDBOX (cutbox-rows.mjs): the forced cells as the released guide's own fill.sh prints them over the translation 6d26fb13ab60ec98… (all of the seat's roots in one cut). By AI agents, Wed Nov 11 2026. No macro, syntax, notation, axiom, sorry.
-/
import Derived.Test.YtgockgehbnekbaaChecked
import GoSem.Claim
import GoSem.ClaimJoined
import GoSem.ClaimMapViews
import Derived.JoinedTies
import Derived.KernelRfl
namespace Go.Proofs.Ytgockgehbnekbaa
/- THE CELL 'sum', in the pinned program and in every row, IS THE sha256 OF THE DUMP (.gsa) THAT YtgockgehbnekbaaProg.lean LOADS. Nothing in Lean hashes anything: it is a label: what it is worth is what the hold of that sum in a sandbox is worth. -/
noncomputable def Try.pinned : Pinned := { name := "ytgockgehbnekbaa", sum := "6d26fb13ab60ec989cd0b028685c4a01e2184c6f287a66e6d123a36ae6927a64", checked := Try.checked }
namespace Rows
def none {H : Type} : Left H := { results := [], args := [] }

/-- 'laws.FnExactIsType': WHATEVER THE INPUT: true; the input reads as it did. -/
def fnExactIsTypeSpec : ChangeSpec := { name := "fnExactIsType", fn := fun _ => fun
  | [d] => { results := [.lit (.bool true)], args := [d] }
  | _ => none }
def fnExactIsTypeRow : OpenClaim := { program := "ytgockgehbnekbaa", sum := "6d26fb13ab60ec989cd0b028685c4a01e2184c6f287a66e6d123a36ae6927a64", func := "loop.example/g03221/laws.FnExactIsType", spec := "fnExactIsType", apart := false }
def FnExactIsTypeSaid : Prop := fnExactIsTypeRow.holds Try.pinned (OpenSpec.ofChange fnExactIsTypeSpec)

/-- ITS FALSE NEIGHBOUR: 'it returns false'. Refute it at one input. -/
def fnExactIsTypeWrong : ChangeSpec := { name := "fnExactIsType", fn := fun _ => fun
  | [d] => { results := [.lit (.bool false)], args := [d] }
  | _ => none }
def FnExactIsTypeWrongFalsely : Prop := fnExactIsTypeRow.holds Try.pinned (OpenSpec.ofChange fnExactIsTypeWrong)

/-- 'laws.FnExactEqualTypes': WHATEVER THE INPUT: true; the input reads as it did. -/
def fnExactEqualTypesSpec : ChangeSpec := { name := "fnExactEqualTypes", fn := fun _ => fun
  | [d1, d2] => { results := [.lit (.bool true)], args := [d1, d2] }
  | _ => none }
def fnExactEqualTypesRow : OpenClaim := { program := "ytgockgehbnekbaa", sum := "6d26fb13ab60ec989cd0b028685c4a01e2184c6f287a66e6d123a36ae6927a64", func := "loop.example/g03221/laws.FnExactEqualTypes", spec := "fnExactEqualTypes", apart := false }
def FnExactEqualTypesSaid : Prop := fnExactEqualTypesRow.holds Try.pinned (OpenSpec.ofChange fnExactEqualTypesSpec)

/-- ITS FALSE NEIGHBOUR: 'it returns false'. Refute it at one input. -/
def fnExactEqualTypesWrong : ChangeSpec := { name := "fnExactEqualTypes", fn := fun _ => fun
  | [d1, d2] => { results := [.lit (.bool false)], args := [d1, d2] }
  | _ => none }
def FnExactEqualTypesWrongFalsely : Prop := fnExactEqualTypesRow.holds Try.pinned (OpenSpec.ofChange fnExactEqualTypesWrong)

/-- 'laws.FnExactFormatType': WHATEVER THE INPUT: true; the input reads as it did. -/
def fnExactFormatTypeSpec : ChangeSpec := { name := "fnExactFormatType", fn := fun _ => fun
  | [d] => { results := [.lit (.bool true)], args := [d] }
  | _ => none }
def fnExactFormatTypeRow : OpenClaim := { program := "ytgockgehbnekbaa", sum := "6d26fb13ab60ec989cd0b028685c4a01e2184c6f287a66e6d123a36ae6927a64", func := "loop.example/g03221/laws.FnExactFormatType", spec := "fnExactFormatType", inPlace := ["internal/abi.NoEscape"], apart := false }
def FnExactFormatTypeSaid : Prop := fnExactFormatTypeRow.holds Try.pinned (OpenSpec.ofChange fnExactFormatTypeSpec)

/-- ITS FALSE NEIGHBOUR: 'it returns false'. Refute it at one input. -/
def fnExactFormatTypeWrong : ChangeSpec := { name := "fnExactFormatType", fn := fun _ => fun
  | [d] => { results := [.lit (.bool false)], args := [d] }
  | _ => none }
def FnExactFormatTypeWrongFalsely : Prop := fnExactFormatTypeRow.holds Try.pinned (OpenSpec.ofChange fnExactFormatTypeWrong)

/-- 'laws.FnExactParseType': WHATEVER THE INPUT: true; the input reads as it did. -/
def fnExactParseTypeSpec : ChangeSpec := { name := "fnExactParseType", fn := fun _ => fun
  | [d] => { results := [.lit (.bool true)], args := [d] }
  | _ => none }
def fnExactParseTypeRow : OpenClaim := { program := "ytgockgehbnekbaa", sum := "6d26fb13ab60ec989cd0b028685c4a01e2184c6f287a66e6d123a36ae6927a64", func := "loop.example/g03221/laws.FnExactParseType", spec := "fnExactParseType", inPlace := ["internal/bytealg.IndexByteString", "internal/bytealg.IndexString", "internal/abi.NoEscape"], named := ["internal/bytealg.MaxLen"], apart := false }
def FnExactParseTypeSaid : Prop := fnExactParseTypeRow.holds Try.pinned (OpenSpec.ofChange fnExactParseTypeSpec)

/-- ITS FALSE NEIGHBOUR: 'it returns false'. Refute it at one input. -/
def fnExactParseTypeWrong : ChangeSpec := { name := "fnExactParseType", fn := fun _ => fun
  | [d] => { results := [.lit (.bool false)], args := [d] }
  | _ => none }
def FnExactParseTypeWrongFalsely : Prop := fnExactParseTypeRow.holds Try.pinned (OpenSpec.ofChange fnExactParseTypeWrong)

/-- 'laws.FnExactEgoOfType': WHATEVER THE INPUT: true; the input reads as it did. -/
def fnExactEgoOfTypeSpec : ChangeSpec := { name := "fnExactEgoOfType", fn := fun _ => fun
  | [d] => { results := [.lit (.bool true)], args := [d] }
  | _ => none }
def fnExactEgoOfTypeRow : OpenClaim := { program := "ytgockgehbnekbaa", sum := "6d26fb13ab60ec989cd0b028685c4a01e2184c6f287a66e6d123a36ae6927a64", func := "loop.example/g03221/laws.FnExactEgoOfType", spec := "fnExactEgoOfType", apart := false }
def FnExactEgoOfTypeSaid : Prop := fnExactEgoOfTypeRow.holds Try.pinned (OpenSpec.ofChange fnExactEgoOfTypeSpec)

/-- ITS FALSE NEIGHBOUR: 'it returns false'. Refute it at one input. -/
def fnExactEgoOfTypeWrong : ChangeSpec := { name := "fnExactEgoOfType", fn := fun _ => fun
  | [d] => { results := [.lit (.bool false)], args := [d] }
  | _ => none }
def FnExactEgoOfTypeWrongFalsely : Prop := fnExactEgoOfTypeRow.holds Try.pinned (OpenSpec.ofChange fnExactEgoOfTypeWrong)

/-- 'laws.FnExactSexOfType': WHATEVER THE INPUT: true; the input reads as it did. -/
def fnExactSexOfTypeSpec : ChangeSpec := { name := "fnExactSexOfType", fn := fun _ => fun
  | [d] => { results := [.lit (.bool true)], args := [d] }
  | _ => none }
def fnExactSexOfTypeRow : OpenClaim := { program := "ytgockgehbnekbaa", sum := "6d26fb13ab60ec989cd0b028685c4a01e2184c6f287a66e6d123a36ae6927a64", func := "loop.example/g03221/laws.FnExactSexOfType", spec := "fnExactSexOfType", apart := false }
def FnExactSexOfTypeSaid : Prop := fnExactSexOfTypeRow.holds Try.pinned (OpenSpec.ofChange fnExactSexOfTypeSpec)

/-- ITS FALSE NEIGHBOUR: 'it returns false'. Refute it at one input. -/
def fnExactSexOfTypeWrong : ChangeSpec := { name := "fnExactSexOfType", fn := fun _ => fun
  | [d] => { results := [.lit (.bool false)], args := [d] }
  | _ => none }
def FnExactSexOfTypeWrongFalsely : Prop := fnExactSexOfTypeRow.holds Try.pinned (OpenSpec.ofChange fnExactSexOfTypeWrong)

/-- 'laws.FnExactJoinTypes': WHATEVER THE INPUT: true; the input reads as it did. -/
def fnExactJoinTypesSpec : ChangeSpec := { name := "fnExactJoinTypes", fn := fun _ => fun
  | [d1, d2] => { results := [.lit (.bool true)], args := [d1, d2] }
  | _ => none }
def fnExactJoinTypesRow : OpenClaim := { program := "ytgockgehbnekbaa", sum := "6d26fb13ab60ec989cd0b028685c4a01e2184c6f287a66e6d123a36ae6927a64", func := "loop.example/g03221/laws.FnExactJoinTypes", spec := "fnExactJoinTypes", apart := false }
def FnExactJoinTypesSaid : Prop := fnExactJoinTypesRow.holds Try.pinned (OpenSpec.ofChange fnExactJoinTypesSpec)

/-- ITS FALSE NEIGHBOUR: 'it returns false'. Refute it at one input. -/
def fnExactJoinTypesWrong : ChangeSpec := { name := "fnExactJoinTypes", fn := fun _ => fun
  | [d1, d2] => { results := [.lit (.bool false)], args := [d1, d2] }
  | _ => none }
def FnExactJoinTypesWrongFalsely : Prop := fnExactJoinTypesRow.holds Try.pinned (OpenSpec.ofChange fnExactJoinTypesWrong)

/-- 'laws.FnExactReverseType': WHATEVER THE INPUT: true; the input reads as it did. -/
def fnExactReverseTypeSpec : ChangeSpec := { name := "fnExactReverseType", fn := fun _ => fun
  | [d] => { results := [.lit (.bool true)], args := [d] }
  | _ => none }
def fnExactReverseTypeRow : OpenClaim := { program := "ytgockgehbnekbaa", sum := "6d26fb13ab60ec989cd0b028685c4a01e2184c6f287a66e6d123a36ae6927a64", func := "loop.example/g03221/laws.FnExactReverseType", spec := "fnExactReverseType", unfollowed := true, recurses := true, apart := false }
def FnExactReverseTypeSaid : Prop := fnExactReverseTypeRow.holds Try.pinned (OpenSpec.ofChange fnExactReverseTypeSpec)

/-- ITS FALSE NEIGHBOUR: 'it returns false'. Refute it at one input. -/
def fnExactReverseTypeWrong : ChangeSpec := { name := "fnExactReverseType", fn := fun _ => fun
  | [d] => { results := [.lit (.bool false)], args := [d] }
  | _ => none }
def FnExactReverseTypeWrongFalsely : Prop := fnExactReverseTypeRow.holds Try.pinned (OpenSpec.ofChange fnExactReverseTypeWrong)

/-- 'laws.FnExactStepRelation': WHATEVER THE INPUT: true; the input reads as it did. -/
def fnExactStepRelationSpec : ChangeSpec := { name := "fnExactStepRelation", fn := fun _ => fun
  | [d1, d2] => { results := [.lit (.bool true)], args := [d1, d2] }
  | _ => none }
def fnExactStepRelationRow : OpenClaim := { program := "ytgockgehbnekbaa", sum := "6d26fb13ab60ec989cd0b028685c4a01e2184c6f287a66e6d123a36ae6927a64", func := "loop.example/g03221/laws.FnExactStepRelation", spec := "fnExactStepRelation", unfollowed := true, recurses := true, apart := false }
def FnExactStepRelationSaid : Prop := fnExactStepRelationRow.holds Try.pinned (OpenSpec.ofChange fnExactStepRelationSpec)

/-- ITS FALSE NEIGHBOUR: 'it returns false'. Refute it at one input. -/
def fnExactStepRelationWrong : ChangeSpec := { name := "fnExactStepRelation", fn := fun _ => fun
  | [d1, d2] => { results := [.lit (.bool false)], args := [d1, d2] }
  | _ => none }
def FnExactStepRelationWrongFalsely : Prop := fnExactStepRelationRow.holds Try.pinned (OpenSpec.ofChange fnExactStepRelationWrong)

/-- 'laws.FnExactTypesFrom': WHATEVER THE INPUT: true; the input reads as it did. -/
def fnExactTypesFromSpec : ChangeSpec := { name := "fnExactTypesFrom", fn := fun _ => fun
  | [d1, d2] => { results := [.lit (.bool true)], args := [d1, d2] }
  | _ => none }
def fnExactTypesFromRow : OpenClaim := { program := "ytgockgehbnekbaa", sum := "6d26fb13ab60ec989cd0b028685c4a01e2184c6f287a66e6d123a36ae6927a64", func := "loop.example/g03221/laws.FnExactTypesFrom", spec := "fnExactTypesFrom", apart := false }
def FnExactTypesFromSaid : Prop := fnExactTypesFromRow.holds Try.pinned (OpenSpec.ofChange fnExactTypesFromSpec)

/-- ITS FALSE NEIGHBOUR: 'it returns false'. Refute it at one input. -/
def fnExactTypesFromWrong : ChangeSpec := { name := "fnExactTypesFrom", fn := fun _ => fun
  | [d1, d2] => { results := [.lit (.bool false)], args := [d1, d2] }
  | _ => none }
def FnExactTypesFromWrongFalsely : Prop := fnExactTypesFromRow.holds Try.pinned (OpenSpec.ofChange fnExactTypesFromWrong)

/-- 'laws.FnExactTypesBetween': WHATEVER THE INPUT: true; the input reads as it did. -/
def fnExactTypesBetweenSpec : ChangeSpec := { name := "fnExactTypesBetween", fn := fun _ => fun
  | [d1, d2, d3, d4] => { results := [.lit (.bool true)], args := [d1, d2, d3, d4] }
  | _ => none }
def fnExactTypesBetweenRow : OpenClaim := { program := "ytgockgehbnekbaa", sum := "6d26fb13ab60ec989cd0b028685c4a01e2184c6f287a66e6d123a36ae6927a64", func := "loop.example/g03221/laws.FnExactTypesBetween", spec := "fnExactTypesBetween", unfollowed := true, recurses := true, apart := false }
def FnExactTypesBetweenSaid : Prop := fnExactTypesBetweenRow.holds Try.pinned (OpenSpec.ofChange fnExactTypesBetweenSpec)

/-- ITS FALSE NEIGHBOUR: 'it returns false'. Refute it at one input. -/
def fnExactTypesBetweenWrong : ChangeSpec := { name := "fnExactTypesBetween", fn := fun _ => fun
  | [d1, d2, d3, d4] => { results := [.lit (.bool false)], args := [d1, d2, d3, d4] }
  | _ => none }
def FnExactTypesBetweenWrongFalsely : Prop := fnExactTypesBetweenRow.holds Try.pinned (OpenSpec.ofChange fnExactTypesBetweenWrong)

/-- 'laws.FnExactShortestType': WHATEVER THE INPUT: true; the input reads as it did. -/
def fnExactShortestTypeSpec : ChangeSpec := { name := "fnExactShortestType", fn := fun _ => fun
  | [d1, d2, d3] => { results := [.lit (.bool true)], args := [d1, d2, d3] }
  | _ => none }
def fnExactShortestTypeRow : OpenClaim := { program := "ytgockgehbnekbaa", sum := "6d26fb13ab60ec989cd0b028685c4a01e2184c6f287a66e6d123a36ae6927a64", func := "loop.example/g03221/laws.FnExactShortestType", spec := "fnExactShortestType", unfollowed := true, recurses := true, apart := false }
def FnExactShortestTypeSaid : Prop := fnExactShortestTypeRow.holds Try.pinned (OpenSpec.ofChange fnExactShortestTypeSpec)

/-- ITS FALSE NEIGHBOUR: 'it returns false'. Refute it at one input. -/
def fnExactShortestTypeWrong : ChangeSpec := { name := "fnExactShortestType", fn := fun _ => fun
  | [d1, d2, d3] => { results := [.lit (.bool false)], args := [d1, d2, d3] }
  | _ => none }
def FnExactShortestTypeWrongFalsely : Prop := fnExactShortestTypeRow.holds Try.pinned (OpenSpec.ofChange fnExactShortestTypeWrong)

/-- 'laws.FnAlgebra': WHATEVER THE INPUT: true; the input reads as it did. -/
def fnAlgebraSpec : ChangeSpec := { name := "fnAlgebra", fn := fun _ => fun
  | [d] => { results := [.lit (.bool true)], args := [d] }
  | _ => none }
def fnAlgebraRow : OpenClaim := { program := "ytgockgehbnekbaa", sum := "6d26fb13ab60ec989cd0b028685c4a01e2184c6f287a66e6d123a36ae6927a64", func := "loop.example/g03221/laws.FnAlgebra", spec := "fnAlgebra", unfollowed := true, recurses := true, apart := false }
def FnAlgebraSaid : Prop := fnAlgebraRow.holds Try.pinned (OpenSpec.ofChange fnAlgebraSpec)

/-- ITS FALSE NEIGHBOUR: 'it returns false'. Refute it at one input. -/
def fnAlgebraWrong : ChangeSpec := { name := "fnAlgebra", fn := fun _ => fun
  | [d] => { results := [.lit (.bool false)], args := [d] }
  | _ => none }
def FnAlgebraWrongFalsely : Prop := fnAlgebraRow.holds Try.pinned (OpenSpec.ofChange fnAlgebraWrong)

/-- 'laws.FnClosed': WHATEVER THE INPUT: true; the input reads as it did. -/
def fnClosedSpec : ChangeSpec := { name := "fnClosed", fn := fun _ => fun
  | [d] => { results := [.lit (.bool true)], args := [d] }
  | _ => none }
def fnClosedRow : OpenClaim := { program := "ytgockgehbnekbaa", sum := "6d26fb13ab60ec989cd0b028685c4a01e2184c6f287a66e6d123a36ae6927a64", func := "loop.example/g03221/laws.FnClosed", spec := "fnClosed", unfollowed := true, recurses := true, apart := false }
def FnClosedSaid : Prop := fnClosedRow.holds Try.pinned (OpenSpec.ofChange fnClosedSpec)

/-- ITS FALSE NEIGHBOUR: 'it returns false'. Refute it at one input. -/
def fnClosedWrong : ChangeSpec := { name := "fnClosed", fn := fun _ => fun
  | [d] => { results := [.lit (.bool false)], args := [d] }
  | _ => none }
def FnClosedWrongFalsely : Prop := fnClosedRow.holds Try.pinned (OpenSpec.ofChange fnClosedWrong)

/- THE SECOND FORM. 'bulk': how many values and letters a reading holds, each counted each time it is reached (what is shared counts as often as it is met; a slice's spare places count too). A statement '..UptoSaid' is the law's where the arguments, and the package variables that the reading takes, are together of bulk at most 1048576: NARROWER than '..Said'. Prove '..Said' where nothing that the law and all that it calls make is longer than what came in: it says more and counts as full. Else prove '..UptoSaid'. A law counts once. -/
mutual
def uptoBulk {H : Type} : DataW H → Nat
  | .lit (.string bytes) => bytes.length + 1
  | .lit _ => 1
  | .nil => 1
  | .ptr d => uptoBulk d + 1
  | .slice elems spare => uptoBulkAll elems + uptoBulkAll spare + 1
  | .agg parts => uptoBulkAll parts + 1
  | .iface _ d => uptoBulk d + 1
  | .map entries => uptoBulkEntries entries + 1
  | .held _ => 1
def uptoBulkAll {H : Type} : List (DataW H) → Nat
  | [] => 0
  | d :: r => uptoBulk d + uptoBulkAll r
def uptoBulkEntries {H : Type} : List (Lit × DataW H) → Nat
  | [] => 0
  | x :: r => uptoBulkEntry x + uptoBulkEntries r
def uptoBulkEntry {H : Type} : Lit × DataW H → Nat
  | (.string bytes, d) => bytes.length + uptoBulk d + 1
  | (_, d) => uptoBulk d + 1
 end
def uptoSmall : (H : Type) → List (DataW H) → Bool := fun _ ds => decide (uptoBulkAll ds ≤ 1048576)
def OpenSpec.upto (s : _root_.Go.ChangeSpec) : _root_.Go.OpenSpec := { _root_.Go.OpenSpec.ofChange s with cond := some uptoSmall }

/-- 'laws.FnExactIsType', WHERE WHAT IT READS IS OF BULK AT MOST 1048576: true; the input reads as it did. -/
def fnExactIsTypeUptoRow : OpenClaim := { program := "ytgockgehbnekbaa", sum := "6d26fb13ab60ec989cd0b028685c4a01e2184c6f287a66e6d123a36ae6927a64", func := "loop.example/g03221/laws.FnExactIsType", spec := "fnExactIsType", apart := false, narrowed := true }
def FnExactIsTypeUptoSaid : Prop := fnExactIsTypeUptoRow.holds Try.pinned (OpenSpec.upto fnExactIsTypeSpec)

/-- 'laws.FnExactEqualTypes', WHERE WHAT IT READS IS OF BULK AT MOST 1048576: true; the input reads as it did. -/
def fnExactEqualTypesUptoRow : OpenClaim := { program := "ytgockgehbnekbaa", sum := "6d26fb13ab60ec989cd0b028685c4a01e2184c6f287a66e6d123a36ae6927a64", func := "loop.example/g03221/laws.FnExactEqualTypes", spec := "fnExactEqualTypes", apart := false, narrowed := true }
def FnExactEqualTypesUptoSaid : Prop := fnExactEqualTypesUptoRow.holds Try.pinned (OpenSpec.upto fnExactEqualTypesSpec)

/-- 'laws.FnExactFormatType', WHERE WHAT IT READS IS OF BULK AT MOST 1048576: true; the input reads as it did. -/
def fnExactFormatTypeUptoRow : OpenClaim := { program := "ytgockgehbnekbaa", sum := "6d26fb13ab60ec989cd0b028685c4a01e2184c6f287a66e6d123a36ae6927a64", func := "loop.example/g03221/laws.FnExactFormatType", spec := "fnExactFormatType", inPlace := ["internal/abi.NoEscape"], apart := false, narrowed := true }
def FnExactFormatTypeUptoSaid : Prop := fnExactFormatTypeUptoRow.holds Try.pinned (OpenSpec.upto fnExactFormatTypeSpec)

/-- 'laws.FnExactParseType', WHERE WHAT IT READS IS OF BULK AT MOST 1048576: true; the input reads as it did. -/
def fnExactParseTypeUptoRow : OpenClaim := { program := "ytgockgehbnekbaa", sum := "6d26fb13ab60ec989cd0b028685c4a01e2184c6f287a66e6d123a36ae6927a64", func := "loop.example/g03221/laws.FnExactParseType", spec := "fnExactParseType", inPlace := ["internal/bytealg.IndexByteString", "internal/bytealg.IndexString", "internal/abi.NoEscape"], named := ["internal/bytealg.MaxLen"], apart := false, narrowed := true }
def FnExactParseTypeUptoSaid : Prop := fnExactParseTypeUptoRow.holds Try.pinned (OpenSpec.upto fnExactParseTypeSpec)

/-- 'laws.FnExactEgoOfType', WHERE WHAT IT READS IS OF BULK AT MOST 1048576: true; the input reads as it did. -/
def fnExactEgoOfTypeUptoRow : OpenClaim := { program := "ytgockgehbnekbaa", sum := "6d26fb13ab60ec989cd0b028685c4a01e2184c6f287a66e6d123a36ae6927a64", func := "loop.example/g03221/laws.FnExactEgoOfType", spec := "fnExactEgoOfType", apart := false, narrowed := true }
def FnExactEgoOfTypeUptoSaid : Prop := fnExactEgoOfTypeUptoRow.holds Try.pinned (OpenSpec.upto fnExactEgoOfTypeSpec)

/-- 'laws.FnExactSexOfType', WHERE WHAT IT READS IS OF BULK AT MOST 1048576: true; the input reads as it did. -/
def fnExactSexOfTypeUptoRow : OpenClaim := { program := "ytgockgehbnekbaa", sum := "6d26fb13ab60ec989cd0b028685c4a01e2184c6f287a66e6d123a36ae6927a64", func := "loop.example/g03221/laws.FnExactSexOfType", spec := "fnExactSexOfType", apart := false, narrowed := true }
def FnExactSexOfTypeUptoSaid : Prop := fnExactSexOfTypeUptoRow.holds Try.pinned (OpenSpec.upto fnExactSexOfTypeSpec)

/-- 'laws.FnExactJoinTypes', WHERE WHAT IT READS IS OF BULK AT MOST 1048576: true; the input reads as it did. -/
def fnExactJoinTypesUptoRow : OpenClaim := { program := "ytgockgehbnekbaa", sum := "6d26fb13ab60ec989cd0b028685c4a01e2184c6f287a66e6d123a36ae6927a64", func := "loop.example/g03221/laws.FnExactJoinTypes", spec := "fnExactJoinTypes", apart := false, narrowed := true }
def FnExactJoinTypesUptoSaid : Prop := fnExactJoinTypesUptoRow.holds Try.pinned (OpenSpec.upto fnExactJoinTypesSpec)

/-- 'laws.FnExactReverseType', WHERE WHAT IT READS IS OF BULK AT MOST 1048576: true; the input reads as it did. -/
def fnExactReverseTypeUptoRow : OpenClaim := { program := "ytgockgehbnekbaa", sum := "6d26fb13ab60ec989cd0b028685c4a01e2184c6f287a66e6d123a36ae6927a64", func := "loop.example/g03221/laws.FnExactReverseType", spec := "fnExactReverseType", unfollowed := true, recurses := true, apart := false, narrowed := true }
def FnExactReverseTypeUptoSaid : Prop := fnExactReverseTypeUptoRow.holds Try.pinned (OpenSpec.upto fnExactReverseTypeSpec)

/-- 'laws.FnExactStepRelation', WHERE WHAT IT READS IS OF BULK AT MOST 1048576: true; the input reads as it did. -/
def fnExactStepRelationUptoRow : OpenClaim := { program := "ytgockgehbnekbaa", sum := "6d26fb13ab60ec989cd0b028685c4a01e2184c6f287a66e6d123a36ae6927a64", func := "loop.example/g03221/laws.FnExactStepRelation", spec := "fnExactStepRelation", unfollowed := true, recurses := true, apart := false, narrowed := true }
def FnExactStepRelationUptoSaid : Prop := fnExactStepRelationUptoRow.holds Try.pinned (OpenSpec.upto fnExactStepRelationSpec)

/-- 'laws.FnExactTypesFrom', WHERE WHAT IT READS IS OF BULK AT MOST 1048576: true; the input reads as it did. -/
def fnExactTypesFromUptoRow : OpenClaim := { program := "ytgockgehbnekbaa", sum := "6d26fb13ab60ec989cd0b028685c4a01e2184c6f287a66e6d123a36ae6927a64", func := "loop.example/g03221/laws.FnExactTypesFrom", spec := "fnExactTypesFrom", apart := false, narrowed := true }
def FnExactTypesFromUptoSaid : Prop := fnExactTypesFromUptoRow.holds Try.pinned (OpenSpec.upto fnExactTypesFromSpec)

/-- 'laws.FnExactTypesBetween', WHERE WHAT IT READS IS OF BULK AT MOST 1048576: true; the input reads as it did. -/
def fnExactTypesBetweenUptoRow : OpenClaim := { program := "ytgockgehbnekbaa", sum := "6d26fb13ab60ec989cd0b028685c4a01e2184c6f287a66e6d123a36ae6927a64", func := "loop.example/g03221/laws.FnExactTypesBetween", spec := "fnExactTypesBetween", unfollowed := true, recurses := true, apart := false, narrowed := true }
def FnExactTypesBetweenUptoSaid : Prop := fnExactTypesBetweenUptoRow.holds Try.pinned (OpenSpec.upto fnExactTypesBetweenSpec)

/-- 'laws.FnExactShortestType', WHERE WHAT IT READS IS OF BULK AT MOST 1048576: true; the input reads as it did. -/
def fnExactShortestTypeUptoRow : OpenClaim := { program := "ytgockgehbnekbaa", sum := "6d26fb13ab60ec989cd0b028685c4a01e2184c6f287a66e6d123a36ae6927a64", func := "loop.example/g03221/laws.FnExactShortestType", spec := "fnExactShortestType", unfollowed := true, recurses := true, apart := false, narrowed := true }
def FnExactShortestTypeUptoSaid : Prop := fnExactShortestTypeUptoRow.holds Try.pinned (OpenSpec.upto fnExactShortestTypeSpec)

/-- 'laws.FnAlgebra', WHERE WHAT IT READS IS OF BULK AT MOST 1048576: true; the input reads as it did. -/
def fnAlgebraUptoRow : OpenClaim := { program := "ytgockgehbnekbaa", sum := "6d26fb13ab60ec989cd0b028685c4a01e2184c6f287a66e6d123a36ae6927a64", func := "loop.example/g03221/laws.FnAlgebra", spec := "fnAlgebra", unfollowed := true, recurses := true, apart := false, narrowed := true }
def FnAlgebraUptoSaid : Prop := fnAlgebraUptoRow.holds Try.pinned (OpenSpec.upto fnAlgebraSpec)

/-- 'laws.FnClosed', WHERE WHAT IT READS IS OF BULK AT MOST 1048576: true; the input reads as it did. -/
def fnClosedUptoRow : OpenClaim := { program := "ytgockgehbnekbaa", sum := "6d26fb13ab60ec989cd0b028685c4a01e2184c6f287a66e6d123a36ae6927a64", func := "loop.example/g03221/laws.FnClosed", spec := "fnClosed", unfollowed := true, recurses := true, apart := false, narrowed := true }
def FnClosedUptoSaid : Prop := fnClosedUptoRow.holds Try.pinned (OpenSpec.upto fnClosedSpec)

end Rows
end Go.Proofs.Ytgockgehbnekbaa
