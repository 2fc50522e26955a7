/-
  No cell of these rows narrows 'for every input' (looked for: loops, veiled, ifaces, maps, wideKeys, modest, calm, conditions, laid).
  DERIVED. THE GIVEN ROWS OF THIS SEAT. 22 by the template 'for every input the law returns true; each argument reads behind the call as it read before'; 0 by the template 'total and deterministic' (their statements: YtfdjeflnjciloaaTotals.lean).
  GIVEN WITH THE SEED: the statements are not yours to turn. If you find one false, say at which input.
  Laid BY PROGRAM, IN A SANDBOX (cutbox-rows.mjs): the forced cells as the released guide's own fill.sh prints them over the translation fa6906064fe1b00c… (all of the seat's roots in one cut). By AI agents, Wed Nov 11 2026. No macro, syntax, notation, axiom, sorry.
-/
import Derived.Test.YtfdjeflnjciloaaChecked
import GoSem.Claim
import GoSem.ClaimJoined
import GoSem.ClaimMapViews
import Derived.JoinedTies
import Derived.KernelRfl
namespace Go.Proofs.Ytfdjeflnjciloaa
/- THE CELL 'sum', in the pinned program and in every row, IS THE sha256 OF THE DUMP (.gsa) THAT YtfdjeflnjciloaaProg.lean LOADS. Nothing in Lean hashes anything: it is a label: what it is worth is what the hold of that sum in a sandbox is worth. -/
noncomputable def Try.pinned : Pinned := { name := "ytfdjeflnjciloaa", sum := "fa6906064fe1b00c8f1c7e7598784663838120c5a3b3d4644d1c255f9a13092a", checked := Try.checked }
namespace Rows
def none {H : Type} : Left H := { results := [], args := [] }

/-- 'laws.FnSiblings': WHATEVER THE INPUT: true; the input reads as it did. -/
def fnSiblingsSpec : ChangeSpec := { name := "fnSiblings", fn := fun _ => fun
  | [d] => { results := [.lit (.bool true)], args := [d] }
  | _ => none }
def fnSiblingsRow : OpenClaim := { program := "ytfdjeflnjciloaa", sum := "fa6906064fe1b00c8f1c7e7598784663838120c5a3b3d4644d1c255f9a13092a", func := "loop.example/g03221/laws.FnSiblings", spec := "fnSiblings", unfollowed := true, recurses := true, apart := false }
def FnSiblingsSaid : Prop := fnSiblingsRow.holds Try.pinned (OpenSpec.ofChange fnSiblingsSpec)

/-- ITS FALSE NEIGHBOUR: 'it returns false'. Refute it at one input. -/
def fnSiblingsWrong : ChangeSpec := { name := "fnSiblings", fn := fun _ => fun
  | [d] => { results := [.lit (.bool false)], args := [d] }
  | _ => none }
def FnSiblingsWrongFalsely : Prop := fnSiblingsRow.holds Try.pinned (OpenSpec.ofChange fnSiblingsWrong)

/-- 'laws.FnAlgebra': WHATEVER THE INPUT: true; the input reads as it did. -/
def fnAlgebraSpec : ChangeSpec := { name := "fnAlgebra", fn := fun _ => fun
  | [d] => { results := [.lit (.bool true)], args := [d] }
  | _ => none }
def fnAlgebraRow : OpenClaim := { program := "ytfdjeflnjciloaa", sum := "fa6906064fe1b00c8f1c7e7598784663838120c5a3b3d4644d1c255f9a13092a", func := "loop.example/g03221/laws.FnAlgebra", spec := "fnAlgebra", unfollowed := true, recurses := true, apart := false }
def FnAlgebraSaid : Prop := fnAlgebraRow.holds Try.pinned (OpenSpec.ofChange fnAlgebraSpec)

/-- ITS FALSE NEIGHBOUR: 'it returns false'. Refute it at one input. -/
def fnAlgebraWrong : ChangeSpec := { name := "fnAlgebra", fn := fun _ => fun
  | [d] => { results := [.lit (.bool false)], args := [d] }
  | _ => none }
def FnAlgebraWrongFalsely : Prop := fnAlgebraRow.holds Try.pinned (OpenSpec.ofChange fnAlgebraWrong)

/-- 'laws.FnClosed': WHATEVER THE INPUT: true; the input reads as it did. -/
def fnClosedSpec : ChangeSpec := { name := "fnClosed", fn := fun _ => fun
  | [d] => { results := [.lit (.bool true)], args := [d] }
  | _ => none }
def fnClosedRow : OpenClaim := { program := "ytfdjeflnjciloaa", sum := "fa6906064fe1b00c8f1c7e7598784663838120c5a3b3d4644d1c255f9a13092a", func := "loop.example/g03221/laws.FnClosed", spec := "fnClosed", unfollowed := true, recurses := true, apart := false }
def FnClosedSaid : Prop := fnClosedRow.holds Try.pinned (OpenSpec.ofChange fnClosedSpec)

/-- ITS FALSE NEIGHBOUR: 'it returns false'. Refute it at one input. -/
def fnClosedWrong : ChangeSpec := { name := "fnClosed", fn := fun _ => fun
  | [d] => { results := [.lit (.bool false)], args := [d] }
  | _ => none }
def FnClosedWrongFalsely : Prop := fnClosedRow.holds Try.pinned (OpenSpec.ofChange fnClosedWrong)

/-- 'laws.FnExactChildrenOf': WHATEVER THE INPUT: true; the input reads as it did. -/
def fnExactChildrenOfSpec : ChangeSpec := { name := "fnExactChildrenOf", fn := fun _ => fun
  | [d1, d2] => { results := [.lit (.bool true)], args := [d1, d2] }
  | _ => none }
def fnExactChildrenOfRow : OpenClaim := { program := "ytfdjeflnjciloaa", sum := "fa6906064fe1b00c8f1c7e7598784663838120c5a3b3d4644d1c255f9a13092a", func := "loop.example/g03221/laws.FnExactChildrenOf", spec := "fnExactChildrenOf", unfollowed := true, recurses := true, apart := false }
def FnExactChildrenOfSaid : Prop := fnExactChildrenOfRow.holds Try.pinned (OpenSpec.ofChange fnExactChildrenOfSpec)

/-- ITS FALSE NEIGHBOUR: 'it returns false'. Refute it at one input. -/
def fnExactChildrenOfWrong : ChangeSpec := { name := "fnExactChildrenOf", fn := fun _ => fun
  | [d1, d2] => { results := [.lit (.bool false)], args := [d1, d2] }
  | _ => none }
def FnExactChildrenOfWrongFalsely : Prop := fnExactChildrenOfRow.holds Try.pinned (OpenSpec.ofChange fnExactChildrenOfWrong)

/-- 'laws.FnExactFullSiblings': WHATEVER THE INPUT: true; the input reads as it did. -/
def fnExactFullSiblingsSpec : ChangeSpec := { name := "fnExactFullSiblings", fn := fun _ => fun
  | [d1, d2] => { results := [.lit (.bool true)], args := [d1, d2] }
  | _ => none }
def fnExactFullSiblingsRow : OpenClaim := { program := "ytfdjeflnjciloaa", sum := "fa6906064fe1b00c8f1c7e7598784663838120c5a3b3d4644d1c255f9a13092a", func := "loop.example/g03221/laws.FnExactFullSiblings", spec := "fnExactFullSiblings", unfollowed := true, recurses := true, apart := false }
def FnExactFullSiblingsSaid : Prop := fnExactFullSiblingsRow.holds Try.pinned (OpenSpec.ofChange fnExactFullSiblingsSpec)

/-- ITS FALSE NEIGHBOUR: 'it returns false'. Refute it at one input. -/
def fnExactFullSiblingsWrong : ChangeSpec := { name := "fnExactFullSiblings", fn := fun _ => fun
  | [d1, d2] => { results := [.lit (.bool false)], args := [d1, d2] }
  | _ => none }
def FnExactFullSiblingsWrongFalsely : Prop := fnExactFullSiblingsRow.holds Try.pinned (OpenSpec.ofChange fnExactFullSiblingsWrong)

/-- 'laws.FnExactHalfSiblings': WHATEVER THE INPUT: true; the input reads as it did. -/
def fnExactHalfSiblingsSpec : ChangeSpec := { name := "fnExactHalfSiblings", fn := fun _ => fun
  | [d1, d2] => { results := [.lit (.bool true)], args := [d1, d2] }
  | _ => none }
def fnExactHalfSiblingsRow : OpenClaim := { program := "ytfdjeflnjciloaa", sum := "fa6906064fe1b00c8f1c7e7598784663838120c5a3b3d4644d1c255f9a13092a", func := "loop.example/g03221/laws.FnExactHalfSiblings", spec := "fnExactHalfSiblings", unfollowed := true, recurses := true, apart := false }
def FnExactHalfSiblingsSaid : Prop := fnExactHalfSiblingsRow.holds Try.pinned (OpenSpec.ofChange fnExactHalfSiblingsSpec)

/-- ITS FALSE NEIGHBOUR: 'it returns false'. Refute it at one input. -/
def fnExactHalfSiblingsWrong : ChangeSpec := { name := "fnExactHalfSiblings", fn := fun _ => fun
  | [d1, d2] => { results := [.lit (.bool false)], args := [d1, d2] }
  | _ => none }
def FnExactHalfSiblingsWrongFalsely : Prop := fnExactHalfSiblingsRow.holds Try.pinned (OpenSpec.ofChange fnExactHalfSiblingsWrong)

/-- 'laws.FnExactRenamePeople': WHATEVER THE INPUT: true; the input reads as it did. -/
def fnExactRenamePeopleSpec : ChangeSpec := { name := "fnExactRenamePeople", fn := fun _ => fun
  | [d1, d2] => { results := [.lit (.bool true)], args := [d1, d2] }
  | _ => none }
def fnExactRenamePeopleRow : OpenClaim := { program := "ytfdjeflnjciloaa", sum := "fa6906064fe1b00c8f1c7e7598784663838120c5a3b3d4644d1c255f9a13092a", func := "loop.example/g03221/laws.FnExactRenamePeople", spec := "fnExactRenamePeople", unfollowed := true, recurses := true, apart := false }
def FnExactRenamePeopleSaid : Prop := fnExactRenamePeopleRow.holds Try.pinned (OpenSpec.ofChange fnExactRenamePeopleSpec)

/-- ITS FALSE NEIGHBOUR: 'it returns false'. Refute it at one input. -/
def fnExactRenamePeopleWrong : ChangeSpec := { name := "fnExactRenamePeople", fn := fun _ => fun
  | [d1, d2] => { results := [.lit (.bool false)], args := [d1, d2] }
  | _ => none }
def FnExactRenamePeopleWrongFalsely : Prop := fnExactRenamePeopleRow.holds Try.pinned (OpenSpec.ofChange fnExactRenamePeopleWrong)

/-- 'laws.FnExactPermutePeople': WHATEVER THE INPUT: true; the input reads as it did. -/
def fnExactPermutePeopleSpec : ChangeSpec := { name := "fnExactPermutePeople", fn := fun _ => fun
  | [d1, d2] => { results := [.lit (.bool true)], args := [d1, d2] }
  | _ => none }
def fnExactPermutePeopleRow : OpenClaim := { program := "ytfdjeflnjciloaa", sum := "fa6906064fe1b00c8f1c7e7598784663838120c5a3b3d4644d1c255f9a13092a", func := "loop.example/g03221/laws.FnExactPermutePeople", spec := "fnExactPermutePeople", unfollowed := true, recurses := true, apart := false }
def FnExactPermutePeopleSaid : Prop := fnExactPermutePeopleRow.holds Try.pinned (OpenSpec.ofChange fnExactPermutePeopleSpec)

/-- ITS FALSE NEIGHBOUR: 'it returns false'. Refute it at one input. -/
def fnExactPermutePeopleWrong : ChangeSpec := { name := "fnExactPermutePeople", fn := fun _ => fun
  | [d1, d2] => { results := [.lit (.bool false)], args := [d1, d2] }
  | _ => none }
def FnExactPermutePeopleWrongFalsely : Prop := fnExactPermutePeopleRow.holds Try.pinned (OpenSpec.ofChange fnExactPermutePeopleWrong)

/-- 'laws.FnExactIsRelation': WHATEVER THE INPUT: true; the input reads as it did. -/
def fnExactIsRelationSpec : ChangeSpec := { name := "fnExactIsRelation", fn := fun _ => fun
  | [d] => { results := [.lit (.bool true)], args := [d] }
  | _ => none }
def fnExactIsRelationRow : OpenClaim := { program := "ytfdjeflnjciloaa", sum := "fa6906064fe1b00c8f1c7e7598784663838120c5a3b3d4644d1c255f9a13092a", func := "loop.example/g03221/laws.FnExactIsRelation", spec := "fnExactIsRelation", apart := false }
def FnExactIsRelationSaid : Prop := fnExactIsRelationRow.holds Try.pinned (OpenSpec.ofChange fnExactIsRelationSpec)

/-- ITS FALSE NEIGHBOUR: 'it returns false'. Refute it at one input. -/
def fnExactIsRelationWrong : ChangeSpec := { name := "fnExactIsRelation", fn := fun _ => fun
  | [d] => { results := [.lit (.bool false)], args := [d] }
  | _ => none }
def FnExactIsRelationWrongFalsely : Prop := fnExactIsRelationRow.holds Try.pinned (OpenSpec.ofChange fnExactIsRelationWrong)

/-- 'laws.FnExactEqualRelations': WHATEVER THE INPUT: true; the input reads as it did. -/
def fnExactEqualRelationsSpec : ChangeSpec := { name := "fnExactEqualRelations", fn := fun _ => fun
  | [d1, d2] => { results := [.lit (.bool true)], args := [d1, d2] }
  | _ => none }
def fnExactEqualRelationsRow : OpenClaim := { program := "ytfdjeflnjciloaa", sum := "fa6906064fe1b00c8f1c7e7598784663838120c5a3b3d4644d1c255f9a13092a", func := "loop.example/g03221/laws.FnExactEqualRelations", spec := "fnExactEqualRelations", unfollowed := true, recurses := true, apart := false }
def FnExactEqualRelationsSaid : Prop := fnExactEqualRelationsRow.holds Try.pinned (OpenSpec.ofChange fnExactEqualRelationsSpec)

/-- ITS FALSE NEIGHBOUR: 'it returns false'. Refute it at one input. -/
def fnExactEqualRelationsWrong : ChangeSpec := { name := "fnExactEqualRelations", fn := fun _ => fun
  | [d1, d2] => { results := [.lit (.bool false)], args := [d1, d2] }
  | _ => none }
def FnExactEqualRelationsWrongFalsely : Prop := fnExactEqualRelationsRow.holds Try.pinned (OpenSpec.ofChange fnExactEqualRelationsWrong)

/-- 'laws.FnExactEmptyRelation': WHATEVER THE INPUT: true; the input reads as it did. -/
def fnExactEmptyRelationSpec : ChangeSpec := { name := "fnExactEmptyRelation", fn := fun _ => fun
  | [d] => { results := [.lit (.bool true)], args := [d] }
  | _ => none }
def fnExactEmptyRelationRow : OpenClaim := { program := "ytfdjeflnjciloaa", sum := "fa6906064fe1b00c8f1c7e7598784663838120c5a3b3d4644d1c255f9a13092a", func := "loop.example/g03221/laws.FnExactEmptyRelation", spec := "fnExactEmptyRelation", unfollowed := true, recurses := true, apart := false }
def FnExactEmptyRelationSaid : Prop := fnExactEmptyRelationRow.holds Try.pinned (OpenSpec.ofChange fnExactEmptyRelationSpec)

/-- ITS FALSE NEIGHBOUR: 'it returns false'. Refute it at one input. -/
def fnExactEmptyRelationWrong : ChangeSpec := { name := "fnExactEmptyRelation", fn := fun _ => fun
  | [d] => { results := [.lit (.bool false)], args := [d] }
  | _ => none }
def FnExactEmptyRelationWrongFalsely : Prop := fnExactEmptyRelationRow.holds Try.pinned (OpenSpec.ofChange fnExactEmptyRelationWrong)

/-- 'laws.FnExactIdentityRelation': WHATEVER THE INPUT: true; the input reads as it did. -/
def fnExactIdentityRelationSpec : ChangeSpec := { name := "fnExactIdentityRelation", fn := fun _ => fun
  | [d] => { results := [.lit (.bool true)], args := [d] }
  | _ => none }
def fnExactIdentityRelationRow : OpenClaim := { program := "ytfdjeflnjciloaa", sum := "fa6906064fe1b00c8f1c7e7598784663838120c5a3b3d4644d1c255f9a13092a", func := "loop.example/g03221/laws.FnExactIdentityRelation", spec := "fnExactIdentityRelation", unfollowed := true, recurses := true, apart := false }
def FnExactIdentityRelationSaid : Prop := fnExactIdentityRelationRow.holds Try.pinned (OpenSpec.ofChange fnExactIdentityRelationSpec)

/-- ITS FALSE NEIGHBOUR: 'it returns false'. Refute it at one input. -/
def fnExactIdentityRelationWrong : ChangeSpec := { name := "fnExactIdentityRelation", fn := fun _ => fun
  | [d] => { results := [.lit (.bool false)], args := [d] }
  | _ => none }
def FnExactIdentityRelationWrongFalsely : Prop := fnExactIdentityRelationRow.holds Try.pinned (OpenSpec.ofChange fnExactIdentityRelationWrong)

/-- 'laws.FnExactRelationOf': WHATEVER THE INPUT: true; the input reads as it did. -/
def fnExactRelationOfSpec : ChangeSpec := { name := "fnExactRelationOf", fn := fun _ => fun
  | [d1, d2] => { results := [.lit (.bool true)], args := [d1, d2] }
  | _ => none }
def fnExactRelationOfRow : OpenClaim := { program := "ytfdjeflnjciloaa", sum := "fa6906064fe1b00c8f1c7e7598784663838120c5a3b3d4644d1c255f9a13092a", func := "loop.example/g03221/laws.FnExactRelationOf", spec := "fnExactRelationOf", unfollowed := true, recurses := true, apart := false }
def FnExactRelationOfSaid : Prop := fnExactRelationOfRow.holds Try.pinned (OpenSpec.ofChange fnExactRelationOfSpec)

/-- ITS FALSE NEIGHBOUR: 'it returns false'. Refute it at one input. -/
def fnExactRelationOfWrong : ChangeSpec := { name := "fnExactRelationOf", fn := fun _ => fun
  | [d1, d2] => { results := [.lit (.bool false)], args := [d1, d2] }
  | _ => none }
def FnExactRelationOfWrongFalsely : Prop := fnExactRelationOfRow.holds Try.pinned (OpenSpec.ofChange fnExactRelationOfWrong)

/-- 'laws.FnExactPairsOf': WHATEVER THE INPUT: true; the input reads as it did. -/
def fnExactPairsOfSpec : ChangeSpec := { name := "fnExactPairsOf", fn := fun _ => fun
  | [d] => { results := [.lit (.bool true)], args := [d] }
  | _ => none }
def fnExactPairsOfRow : OpenClaim := { program := "ytfdjeflnjciloaa", sum := "fa6906064fe1b00c8f1c7e7598784663838120c5a3b3d4644d1c255f9a13092a", func := "loop.example/g03221/laws.FnExactPairsOf", spec := "fnExactPairsOf", apart := false }
def FnExactPairsOfSaid : Prop := fnExactPairsOfRow.holds Try.pinned (OpenSpec.ofChange fnExactPairsOfSpec)

/-- ITS FALSE NEIGHBOUR: 'it returns false'. Refute it at one input. -/
def fnExactPairsOfWrong : ChangeSpec := { name := "fnExactPairsOf", fn := fun _ => fun
  | [d] => { results := [.lit (.bool false)], args := [d] }
  | _ => none }
def FnExactPairsOfWrongFalsely : Prop := fnExactPairsOfRow.holds Try.pinned (OpenSpec.ofChange fnExactPairsOfWrong)

/-- 'laws.FnExactIsRelated': WHATEVER THE INPUT: true; the input reads as it did. -/
def fnExactIsRelatedSpec : ChangeSpec := { name := "fnExactIsRelated", fn := fun _ => fun
  | [d1, d2, d3] => { results := [.lit (.bool true)], args := [d1, d2, d3] }
  | _ => none }
def fnExactIsRelatedRow : OpenClaim := { program := "ytfdjeflnjciloaa", sum := "fa6906064fe1b00c8f1c7e7598784663838120c5a3b3d4644d1c255f9a13092a", func := "loop.example/g03221/laws.FnExactIsRelated", spec := "fnExactIsRelated", apart := false }
def FnExactIsRelatedSaid : Prop := fnExactIsRelatedRow.holds Try.pinned (OpenSpec.ofChange fnExactIsRelatedSpec)

/-- ITS FALSE NEIGHBOUR: 'it returns false'. Refute it at one input. -/
def fnExactIsRelatedWrong : ChangeSpec := { name := "fnExactIsRelated", fn := fun _ => fun
  | [d1, d2, d3] => { results := [.lit (.bool false)], args := [d1, d2, d3] }
  | _ => none }
def FnExactIsRelatedWrongFalsely : Prop := fnExactIsRelatedRow.holds Try.pinned (OpenSpec.ofChange fnExactIsRelatedWrong)

/-- 'laws.FnExactJoinRelations': WHATEVER THE INPUT: true; the input reads as it did. -/
def fnExactJoinRelationsSpec : ChangeSpec := { name := "fnExactJoinRelations", fn := fun _ => fun
  | [d1, d2] => { results := [.lit (.bool true)], args := [d1, d2] }
  | _ => none }
def fnExactJoinRelationsRow : OpenClaim := { program := "ytfdjeflnjciloaa", sum := "fa6906064fe1b00c8f1c7e7598784663838120c5a3b3d4644d1c255f9a13092a", func := "loop.example/g03221/laws.FnExactJoinRelations", spec := "fnExactJoinRelations", unfollowed := true, recurses := true, apart := false }
def FnExactJoinRelationsSaid : Prop := fnExactJoinRelationsRow.holds Try.pinned (OpenSpec.ofChange fnExactJoinRelationsSpec)

/-- ITS FALSE NEIGHBOUR: 'it returns false'. Refute it at one input. -/
def fnExactJoinRelationsWrong : ChangeSpec := { name := "fnExactJoinRelations", fn := fun _ => fun
  | [d1, d2] => { results := [.lit (.bool false)], args := [d1, d2] }
  | _ => none }
def FnExactJoinRelationsWrongFalsely : Prop := fnExactJoinRelationsRow.holds Try.pinned (OpenSpec.ofChange fnExactJoinRelationsWrong)

/-- 'laws.FnExactMeetRelations': WHATEVER THE INPUT: true; the input reads as it did. -/
def fnExactMeetRelationsSpec : ChangeSpec := { name := "fnExactMeetRelations", fn := fun _ => fun
  | [d1, d2] => { results := [.lit (.bool true)], args := [d1, d2] }
  | _ => none }
def fnExactMeetRelationsRow : OpenClaim := { program := "ytfdjeflnjciloaa", sum := "fa6906064fe1b00c8f1c7e7598784663838120c5a3b3d4644d1c255f9a13092a", func := "loop.example/g03221/laws.FnExactMeetRelations", spec := "fnExactMeetRelations", unfollowed := true, recurses := true, apart := false }
def FnExactMeetRelationsSaid : Prop := fnExactMeetRelationsRow.holds Try.pinned (OpenSpec.ofChange fnExactMeetRelationsSpec)

/-- ITS FALSE NEIGHBOUR: 'it returns false'. Refute it at one input. -/
def fnExactMeetRelationsWrong : ChangeSpec := { name := "fnExactMeetRelations", fn := fun _ => fun
  | [d1, d2] => { results := [.lit (.bool false)], args := [d1, d2] }
  | _ => none }
def FnExactMeetRelationsWrongFalsely : Prop := fnExactMeetRelationsRow.holds Try.pinned (OpenSpec.ofChange fnExactMeetRelationsWrong)

/-- 'laws.FnExactLessRelation': WHATEVER THE INPUT: true; the input reads as it did. -/
def fnExactLessRelationSpec : ChangeSpec := { name := "fnExactLessRelation", fn := fun _ => fun
  | [d1, d2] => { results := [.lit (.bool true)], args := [d1, d2] }
  | _ => none }
def fnExactLessRelationRow : OpenClaim := { program := "ytfdjeflnjciloaa", sum := "fa6906064fe1b00c8f1c7e7598784663838120c5a3b3d4644d1c255f9a13092a", func := "loop.example/g03221/laws.FnExactLessRelation", spec := "fnExactLessRelation", unfollowed := true, recurses := true, apart := false }
def FnExactLessRelationSaid : Prop := fnExactLessRelationRow.holds Try.pinned (OpenSpec.ofChange fnExactLessRelationSpec)

/-- ITS FALSE NEIGHBOUR: 'it returns false'. Refute it at one input. -/
def fnExactLessRelationWrong : ChangeSpec := { name := "fnExactLessRelation", fn := fun _ => fun
  | [d1, d2] => { results := [.lit (.bool false)], args := [d1, d2] }
  | _ => none }
def FnExactLessRelationWrongFalsely : Prop := fnExactLessRelationRow.holds Try.pinned (OpenSpec.ofChange fnExactLessRelationWrong)

/-- 'laws.FnExactComposeRelations': WHATEVER THE INPUT: true; the input reads as it did. -/
def fnExactComposeRelationsSpec : ChangeSpec := { name := "fnExactComposeRelations", fn := fun _ => fun
  | [d1, d2] => { results := [.lit (.bool true)], args := [d1, d2] }
  | _ => none }
def fnExactComposeRelationsRow : OpenClaim := { program := "ytfdjeflnjciloaa", sum := "fa6906064fe1b00c8f1c7e7598784663838120c5a3b3d4644d1c255f9a13092a", func := "loop.example/g03221/laws.FnExactComposeRelations", spec := "fnExactComposeRelations", unfollowed := true, recurses := true, apart := false }
def FnExactComposeRelationsSaid : Prop := fnExactComposeRelationsRow.holds Try.pinned (OpenSpec.ofChange fnExactComposeRelationsSpec)

/-- ITS FALSE NEIGHBOUR: 'it returns false'. Refute it at one input. -/
def fnExactComposeRelationsWrong : ChangeSpec := { name := "fnExactComposeRelations", fn := fun _ => fun
  | [d1, d2] => { results := [.lit (.bool false)], args := [d1, d2] }
  | _ => none }
def FnExactComposeRelationsWrongFalsely : Prop := fnExactComposeRelationsRow.holds Try.pinned (OpenSpec.ofChange fnExactComposeRelationsWrong)

/-- 'laws.FnExactConverseRelation': WHATEVER THE INPUT: true; the input reads as it did. -/
def fnExactConverseRelationSpec : ChangeSpec := { name := "fnExactConverseRelation", fn := fun _ => fun
  | [d] => { results := [.lit (.bool true)], args := [d] }
  | _ => none }
def fnExactConverseRelationRow : OpenClaim := { program := "ytfdjeflnjciloaa", sum := "fa6906064fe1b00c8f1c7e7598784663838120c5a3b3d4644d1c255f9a13092a", func := "loop.example/g03221/laws.FnExactConverseRelation", spec := "fnExactConverseRelation", unfollowed := true, recurses := true, apart := false }
def FnExactConverseRelationSaid : Prop := fnExactConverseRelationRow.holds Try.pinned (OpenSpec.ofChange fnExactConverseRelationSpec)

/-- ITS FALSE NEIGHBOUR: 'it returns false'. Refute it at one input. -/
def fnExactConverseRelationWrong : ChangeSpec := { name := "fnExactConverseRelation", fn := fun _ => fun
  | [d] => { results := [.lit (.bool false)], args := [d] }
  | _ => none }
def FnExactConverseRelationWrongFalsely : Prop := fnExactConverseRelationRow.holds Try.pinned (OpenSpec.ofChange fnExactConverseRelationWrong)

/-- 'laws.FnExactClosureRelation': WHATEVER THE INPUT: true; the input reads as it did. -/
def fnExactClosureRelationSpec : ChangeSpec := { name := "fnExactClosureRelation", fn := fun _ => fun
  | [d] => { results := [.lit (.bool true)], args := [d] }
  | _ => none }
def fnExactClosureRelationRow : OpenClaim := { program := "ytfdjeflnjciloaa", sum := "fa6906064fe1b00c8f1c7e7598784663838120c5a3b3d4644d1c255f9a13092a", func := "loop.example/g03221/laws.FnExactClosureRelation", spec := "fnExactClosureRelation", unfollowed := true, recurses := true, apart := false }
def FnExactClosureRelationSaid : Prop := fnExactClosureRelationRow.holds Try.pinned (OpenSpec.ofChange fnExactClosureRelationSpec)

/-- ITS FALSE NEIGHBOUR: 'it returns false'. Refute it at one input. -/
def fnExactClosureRelationWrong : ChangeSpec := { name := "fnExactClosureRelation", fn := fun _ => fun
  | [d] => { results := [.lit (.bool false)], args := [d] }
  | _ => none }
def FnExactClosureRelationWrongFalsely : Prop := fnExactClosureRelationRow.holds Try.pinned (OpenSpec.ofChange fnExactClosureRelationWrong)

/-- 'laws.FnExactIsWithin': WHATEVER THE INPUT: true; the input reads as it did. -/
def fnExactIsWithinSpec : ChangeSpec := { name := "fnExactIsWithin", fn := fun _ => fun
  | [d1, d2] => { results := [.lit (.bool true)], args := [d1, d2] }
  | _ => none }
def fnExactIsWithinRow : OpenClaim := { program := "ytfdjeflnjciloaa", sum := "fa6906064fe1b00c8f1c7e7598784663838120c5a3b3d4644d1c255f9a13092a", func := "loop.example/g03221/laws.FnExactIsWithin", spec := "fnExactIsWithin", unfollowed := true, recurses := true, apart := false }
def FnExactIsWithinSaid : Prop := fnExactIsWithinRow.holds Try.pinned (OpenSpec.ofChange fnExactIsWithinSpec)

/-- ITS FALSE NEIGHBOUR: 'it returns false'. Refute it at one input. -/
def fnExactIsWithinWrong : ChangeSpec := { name := "fnExactIsWithin", fn := fun _ => fun
  | [d1, d2] => { results := [.lit (.bool false)], args := [d1, d2] }
  | _ => none }
def FnExactIsWithinWrongFalsely : Prop := fnExactIsWithinRow.holds Try.pinned (OpenSpec.ofChange fnExactIsWithinWrong)

/- THE SECOND FORM. 'bulk': how many values and letters a reading holds, each counted each time it is reached (what is shared counts as often as it is met; a slice's spare places count too). A statement '..UptoSaid' is the law's where the arguments, and the package variables that the reading takes, are together of bulk at most 1048576: NARROWER than '..Said'. Prove '..Said' where nothing that the law and all that it calls make is longer than what came in: it says more and counts as full. Else prove '..UptoSaid'. A law counts once. -/
mutual
def uptoBulk {H : Type} : DataW H → Nat
  | .lit (.string bytes) => bytes.length + 1
  | .lit _ => 1
  | .nil => 1
  | .ptr d => uptoBulk d + 1
  | .slice elems spare => uptoBulkAll elems + uptoBulkAll spare + 1
  | .agg parts => uptoBulkAll parts + 1
  | .iface _ d => uptoBulk d + 1
  | .map entries => uptoBulkEntries entries + 1
  | .held _ => 1
def uptoBulkAll {H : Type} : List (DataW H) → Nat
  | [] => 0
  | d :: r => uptoBulk d + uptoBulkAll r
def uptoBulkEntries {H : Type} : List (Lit × DataW H) → Nat
  | [] => 0
  | x :: r => uptoBulkEntry x + uptoBulkEntries r
def uptoBulkEntry {H : Type} : Lit × DataW H → Nat
  | (.string bytes, d) => bytes.length + uptoBulk d + 1
  | (_, d) => uptoBulk d + 1
 end
def uptoSmall : (H : Type) → List (DataW H) → Bool := fun _ ds => decide (uptoBulkAll ds ≤ 1048576)
def OpenSpec.upto (s : _root_.Go.ChangeSpec) : _root_.Go.OpenSpec := { _root_.Go.OpenSpec.ofChange s with cond := some uptoSmall }

/-- 'laws.FnSiblings', WHERE WHAT IT READS IS OF BULK AT MOST 1048576: true; the input reads as it did. -/
def fnSiblingsUptoRow : OpenClaim := { program := "ytfdjeflnjciloaa", sum := "fa6906064fe1b00c8f1c7e7598784663838120c5a3b3d4644d1c255f9a13092a", func := "loop.example/g03221/laws.FnSiblings", spec := "fnSiblings", unfollowed := true, recurses := true, apart := false, narrowed := true }
def FnSiblingsUptoSaid : Prop := fnSiblingsUptoRow.holds Try.pinned (OpenSpec.upto fnSiblingsSpec)

/-- 'laws.FnAlgebra', WHERE WHAT IT READS IS OF BULK AT MOST 1048576: true; the input reads as it did. -/
def fnAlgebraUptoRow : OpenClaim := { program := "ytfdjeflnjciloaa", sum := "fa6906064fe1b00c8f1c7e7598784663838120c5a3b3d4644d1c255f9a13092a", func := "loop.example/g03221/laws.FnAlgebra", spec := "fnAlgebra", unfollowed := true, recurses := true, apart := false, narrowed := true }
def FnAlgebraUptoSaid : Prop := fnAlgebraUptoRow.holds Try.pinned (OpenSpec.upto fnAlgebraSpec)

/-- 'laws.FnClosed', WHERE WHAT IT READS IS OF BULK AT MOST 1048576: true; the input reads as it did. -/
def fnClosedUptoRow : OpenClaim := { program := "ytfdjeflnjciloaa", sum := "fa6906064fe1b00c8f1c7e7598784663838120c5a3b3d4644d1c255f9a13092a", func := "loop.example/g03221/laws.FnClosed", spec := "fnClosed", unfollowed := true, recurses := true, apart := false, narrowed := true }
def FnClosedUptoSaid : Prop := fnClosedUptoRow.holds Try.pinned (OpenSpec.upto fnClosedSpec)

/-- 'laws.FnExactChildrenOf', WHERE WHAT IT READS IS OF BULK AT MOST 1048576: true; the input reads as it did. -/
def fnExactChildrenOfUptoRow : OpenClaim := { program := "ytfdjeflnjciloaa", sum := "fa6906064fe1b00c8f1c7e7598784663838120c5a3b3d4644d1c255f9a13092a", func := "loop.example/g03221/laws.FnExactChildrenOf", spec := "fnExactChildrenOf", unfollowed := true, recurses := true, apart := false, narrowed := true }
def FnExactChildrenOfUptoSaid : Prop := fnExactChildrenOfUptoRow.holds Try.pinned (OpenSpec.upto fnExactChildrenOfSpec)

/-- 'laws.FnExactFullSiblings', WHERE WHAT IT READS IS OF BULK AT MOST 1048576: true; the input reads as it did. -/
def fnExactFullSiblingsUptoRow : OpenClaim := { program := "ytfdjeflnjciloaa", sum := "fa6906064fe1b00c8f1c7e7598784663838120c5a3b3d4644d1c255f9a13092a", func := "loop.example/g03221/laws.FnExactFullSiblings", spec := "fnExactFullSiblings", unfollowed := true, recurses := true, apart := false, narrowed := true }
def FnExactFullSiblingsUptoSaid : Prop := fnExactFullSiblingsUptoRow.holds Try.pinned (OpenSpec.upto fnExactFullSiblingsSpec)

/-- 'laws.FnExactHalfSiblings', WHERE WHAT IT READS IS OF BULK AT MOST 1048576: true; the input reads as it did. -/
def fnExactHalfSiblingsUptoRow : OpenClaim := { program := "ytfdjeflnjciloaa", sum := "fa6906064fe1b00c8f1c7e7598784663838120c5a3b3d4644d1c255f9a13092a", func := "loop.example/g03221/laws.FnExactHalfSiblings", spec := "fnExactHalfSiblings", unfollowed := true, recurses := true, apart := false, narrowed := true }
def FnExactHalfSiblingsUptoSaid : Prop := fnExactHalfSiblingsUptoRow.holds Try.pinned (OpenSpec.upto fnExactHalfSiblingsSpec)

/-- 'laws.FnExactRenamePeople', WHERE WHAT IT READS IS OF BULK AT MOST 1048576: true; the input reads as it did. -/
def fnExactRenamePeopleUptoRow : OpenClaim := { program := "ytfdjeflnjciloaa", sum := "fa6906064fe1b00c8f1c7e7598784663838120c5a3b3d4644d1c255f9a13092a", func := "loop.example/g03221/laws.FnExactRenamePeople", spec := "fnExactRenamePeople", unfollowed := true, recurses := true, apart := false, narrowed := true }
def FnExactRenamePeopleUptoSaid : Prop := fnExactRenamePeopleUptoRow.holds Try.pinned (OpenSpec.upto fnExactRenamePeopleSpec)

/-- 'laws.FnExactPermutePeople', WHERE WHAT IT READS IS OF BULK AT MOST 1048576: true; the input reads as it did. -/
def fnExactPermutePeopleUptoRow : OpenClaim := { program := "ytfdjeflnjciloaa", sum := "fa6906064fe1b00c8f1c7e7598784663838120c5a3b3d4644d1c255f9a13092a", func := "loop.example/g03221/laws.FnExactPermutePeople", spec := "fnExactPermutePeople", unfollowed := true, recurses := true, apart := false, narrowed := true }
def FnExactPermutePeopleUptoSaid : Prop := fnExactPermutePeopleUptoRow.holds Try.pinned (OpenSpec.upto fnExactPermutePeopleSpec)

/-- 'laws.FnExactIsRelation', WHERE WHAT IT READS IS OF BULK AT MOST 1048576: true; the input reads as it did. -/
def fnExactIsRelationUptoRow : OpenClaim := { program := "ytfdjeflnjciloaa", sum := "fa6906064fe1b00c8f1c7e7598784663838120c5a3b3d4644d1c255f9a13092a", func := "loop.example/g03221/laws.FnExactIsRelation", spec := "fnExactIsRelation", apart := false, narrowed := true }
def FnExactIsRelationUptoSaid : Prop := fnExactIsRelationUptoRow.holds Try.pinned (OpenSpec.upto fnExactIsRelationSpec)

/-- 'laws.FnExactEqualRelations', WHERE WHAT IT READS IS OF BULK AT MOST 1048576: true; the input reads as it did. -/
def fnExactEqualRelationsUptoRow : OpenClaim := { program := "ytfdjeflnjciloaa", sum := "fa6906064fe1b00c8f1c7e7598784663838120c5a3b3d4644d1c255f9a13092a", func := "loop.example/g03221/laws.FnExactEqualRelations", spec := "fnExactEqualRelations", unfollowed := true, recurses := true, apart := false, narrowed := true }
def FnExactEqualRelationsUptoSaid : Prop := fnExactEqualRelationsUptoRow.holds Try.pinned (OpenSpec.upto fnExactEqualRelationsSpec)

/-- 'laws.FnExactEmptyRelation', WHERE WHAT IT READS IS OF BULK AT MOST 1048576: true; the input reads as it did. -/
def fnExactEmptyRelationUptoRow : OpenClaim := { program := "ytfdjeflnjciloaa", sum := "fa6906064fe1b00c8f1c7e7598784663838120c5a3b3d4644d1c255f9a13092a", func := "loop.example/g03221/laws.FnExactEmptyRelation", spec := "fnExactEmptyRelation", unfollowed := true, recurses := true, apart := false, narrowed := true }
def FnExactEmptyRelationUptoSaid : Prop := fnExactEmptyRelationUptoRow.holds Try.pinned (OpenSpec.upto fnExactEmptyRelationSpec)

/-- 'laws.FnExactIdentityRelation', WHERE WHAT IT READS IS OF BULK AT MOST 1048576: true; the input reads as it did. -/
def fnExactIdentityRelationUptoRow : OpenClaim := { program := "ytfdjeflnjciloaa", sum := "fa6906064fe1b00c8f1c7e7598784663838120c5a3b3d4644d1c255f9a13092a", func := "loop.example/g03221/laws.FnExactIdentityRelation", spec := "fnExactIdentityRelation", unfollowed := true, recurses := true, apart := false, narrowed := true }
def FnExactIdentityRelationUptoSaid : Prop := fnExactIdentityRelationUptoRow.holds Try.pinned (OpenSpec.upto fnExactIdentityRelationSpec)

/-- 'laws.FnExactRelationOf', WHERE WHAT IT READS IS OF BULK AT MOST 1048576: true; the input reads as it did. -/
def fnExactRelationOfUptoRow : OpenClaim := { program := "ytfdjeflnjciloaa", sum := "fa6906064fe1b00c8f1c7e7598784663838120c5a3b3d4644d1c255f9a13092a", func := "loop.example/g03221/laws.FnExactRelationOf", spec := "fnExactRelationOf", unfollowed := true, recurses := true, apart := false, narrowed := true }
def FnExactRelationOfUptoSaid : Prop := fnExactRelationOfUptoRow.holds Try.pinned (OpenSpec.upto fnExactRelationOfSpec)

/-- 'laws.FnExactPairsOf', WHERE WHAT IT READS IS OF BULK AT MOST 1048576: true; the input reads as it did. -/
def fnExactPairsOfUptoRow : OpenClaim := { program := "ytfdjeflnjciloaa", sum := "fa6906064fe1b00c8f1c7e7598784663838120c5a3b3d4644d1c255f9a13092a", func := "loop.example/g03221/laws.FnExactPairsOf", spec := "fnExactPairsOf", apart := false, narrowed := true }
def FnExactPairsOfUptoSaid : Prop := fnExactPairsOfUptoRow.holds Try.pinned (OpenSpec.upto fnExactPairsOfSpec)

/-- 'laws.FnExactIsRelated', WHERE WHAT IT READS IS OF BULK AT MOST 1048576: true; the input reads as it did. -/
def fnExactIsRelatedUptoRow : OpenClaim := { program := "ytfdjeflnjciloaa", sum := "fa6906064fe1b00c8f1c7e7598784663838120c5a3b3d4644d1c255f9a13092a", func := "loop.example/g03221/laws.FnExactIsRelated", spec := "fnExactIsRelated", apart := false, narrowed := true }
def FnExactIsRelatedUptoSaid : Prop := fnExactIsRelatedUptoRow.holds Try.pinned (OpenSpec.upto fnExactIsRelatedSpec)

/-- 'laws.FnExactJoinRelations', WHERE WHAT IT READS IS OF BULK AT MOST 1048576: true; the input reads as it did. -/
def fnExactJoinRelationsUptoRow : OpenClaim := { program := "ytfdjeflnjciloaa", sum := "fa6906064fe1b00c8f1c7e7598784663838120c5a3b3d4644d1c255f9a13092a", func := "loop.example/g03221/laws.FnExactJoinRelations", spec := "fnExactJoinRelations", unfollowed := true, recurses := true, apart := false, narrowed := true }
def FnExactJoinRelationsUptoSaid : Prop := fnExactJoinRelationsUptoRow.holds Try.pinned (OpenSpec.upto fnExactJoinRelationsSpec)

/-- 'laws.FnExactMeetRelations', WHERE WHAT IT READS IS OF BULK AT MOST 1048576: true; the input reads as it did. -/
def fnExactMeetRelationsUptoRow : OpenClaim := { program := "ytfdjeflnjciloaa", sum := "fa6906064fe1b00c8f1c7e7598784663838120c5a3b3d4644d1c255f9a13092a", func := "loop.example/g03221/laws.FnExactMeetRelations", spec := "fnExactMeetRelations", unfollowed := true, recurses := true, apart := false, narrowed := true }
def FnExactMeetRelationsUptoSaid : Prop := fnExactMeetRelationsUptoRow.holds Try.pinned (OpenSpec.upto fnExactMeetRelationsSpec)

/-- 'laws.FnExactLessRelation', WHERE WHAT IT READS IS OF BULK AT MOST 1048576: true; the input reads as it did. -/
def fnExactLessRelationUptoRow : OpenClaim := { program := "ytfdjeflnjciloaa", sum := "fa6906064fe1b00c8f1c7e7598784663838120c5a3b3d4644d1c255f9a13092a", func := "loop.example/g03221/laws.FnExactLessRelation", spec := "fnExactLessRelation", unfollowed := true, recurses := true, apart := false, narrowed := true }
def FnExactLessRelationUptoSaid : Prop := fnExactLessRelationUptoRow.holds Try.pinned (OpenSpec.upto fnExactLessRelationSpec)

/-- 'laws.FnExactComposeRelations', WHERE WHAT IT READS IS OF BULK AT MOST 1048576: true; the input reads as it did. -/
def fnExactComposeRelationsUptoRow : OpenClaim := { program := "ytfdjeflnjciloaa", sum := "fa6906064fe1b00c8f1c7e7598784663838120c5a3b3d4644d1c255f9a13092a", func := "loop.example/g03221/laws.FnExactComposeRelations", spec := "fnExactComposeRelations", unfollowed := true, recurses := true, apart := false, narrowed := true }
def FnExactComposeRelationsUptoSaid : Prop := fnExactComposeRelationsUptoRow.holds Try.pinned (OpenSpec.upto fnExactComposeRelationsSpec)

/-- 'laws.FnExactConverseRelation', WHERE WHAT IT READS IS OF BULK AT MOST 1048576: true; the input reads as it did. -/
def fnExactConverseRelationUptoRow : OpenClaim := { program := "ytfdjeflnjciloaa", sum := "fa6906064fe1b00c8f1c7e7598784663838120c5a3b3d4644d1c255f9a13092a", func := "loop.example/g03221/laws.FnExactConverseRelation", spec := "fnExactConverseRelation", unfollowed := true, recurses := true, apart := false, narrowed := true }
def FnExactConverseRelationUptoSaid : Prop := fnExactConverseRelationUptoRow.holds Try.pinned (OpenSpec.upto fnExactConverseRelationSpec)

/-- 'laws.FnExactClosureRelation', WHERE WHAT IT READS IS OF BULK AT MOST 1048576: true; the input reads as it did. -/
def fnExactClosureRelationUptoRow : OpenClaim := { program := "ytfdjeflnjciloaa", sum := "fa6906064fe1b00c8f1c7e7598784663838120c5a3b3d4644d1c255f9a13092a", func := "loop.example/g03221/laws.FnExactClosureRelation", spec := "fnExactClosureRelation", unfollowed := true, recurses := true, apart := false, narrowed := true }
def FnExactClosureRelationUptoSaid : Prop := fnExactClosureRelationUptoRow.holds Try.pinned (OpenSpec.upto fnExactClosureRelationSpec)

/-- 'laws.FnExactIsWithin', WHERE WHAT IT READS IS OF BULK AT MOST 1048576: true; the input reads as it did. -/
def fnExactIsWithinUptoRow : OpenClaim := { program := "ytfdjeflnjciloaa", sum := "fa6906064fe1b00c8f1c7e7598784663838120c5a3b3d4644d1c255f9a13092a", func := "loop.example/g03221/laws.FnExactIsWithin", spec := "fnExactIsWithin", unfollowed := true, recurses := true, apart := false, narrowed := true }
def FnExactIsWithinUptoSaid : Prop := fnExactIsWithinUptoRow.holds Try.pinned (OpenSpec.upto fnExactIsWithinSpec)

end Rows
end Go.Proofs.Ytfdjeflnjciloaa
