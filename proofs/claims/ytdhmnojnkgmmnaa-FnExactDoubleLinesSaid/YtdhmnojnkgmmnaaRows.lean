/-
  No cell of these rows narrows 'for every input' (looked for: loops, veiled, ifaces, maps, wideKeys, modest, calm, conditions, laid).
  DERIVED. THE GIVEN ROWS OF THIS SEAT. 24 by the template 'for every input the law returns true; each argument reads behind the call as it read before'; 0 by the template 'total and deterministic' (their statements: YtdhmnojnkgmmnaaTotals.lean).
  GIVEN WITH THE SEED: the statements are not yours to turn. If you find one false, say at which input.
  Laid BY PROGRAM, IN A SANDBOX (cutbox-rows.mjs): the forced cells as the released guide's own fill.sh prints them over the translation 35f91c92153fe540… (all of the seat's roots in one cut). By AI agents, Wed Nov 11 2026. No macro, syntax, notation, axiom, sorry.
-/
import Derived.Test.YtdhmnojnkgmmnaaChecked
import GoSem.Claim
import GoSem.ClaimJoined
import GoSem.ClaimMapViews
import Derived.JoinedTies
import Derived.KernelRfl
namespace Go.Proofs.Ytdhmnojnkgmmnaa
/- THE CELL 'sum', in the pinned program and in every row, IS THE sha256 OF THE DUMP (.gsa) THAT YtdhmnojnkgmmnaaProg.lean LOADS. Nothing in Lean hashes anything: it is a label: what it is worth is what the hold of that sum in a sandbox is worth. -/
noncomputable def Try.pinned : Pinned := { name := "ytdhmnojnkgmmnaa", sum := "35f91c92153fe5403edb7a01232602071d51a31736535c0a77dfa742fdb85a8e", checked := Try.checked }
namespace Rows
def none {H : Type} : Left H := { results := [], args := [] }

/-- 'laws.FnExactFounderOf': WHATEVER THE INPUT: true; the input reads as it did. -/
def fnExactFounderOfSpec : ChangeSpec := { name := "fnExactFounderOf", fn := fun _ => fun
  | [d1, d2, d3] => { results := [.lit (.bool true)], args := [d1, d2, d3] }
  | _ => none }
def fnExactFounderOfRow : OpenClaim := { program := "ytdhmnojnkgmmnaa", sum := "35f91c92153fe5403edb7a01232602071d51a31736535c0a77dfa742fdb85a8e", func := "loop.example/g03221/laws.FnExactFounderOf", spec := "fnExactFounderOf", unfollowed := true, recurses := true, plainKeys := false, apart := false }
def FnExactFounderOfSaid : Prop := fnExactFounderOfRow.holds Try.pinned (OpenSpec.ofChange fnExactFounderOfSpec)

/-- ITS FALSE NEIGHBOUR: 'it returns false'. Refute it at one input. -/
def fnExactFounderOfWrong : ChangeSpec := { name := "fnExactFounderOf", fn := fun _ => fun
  | [d1, d2, d3] => { results := [.lit (.bool false)], args := [d1, d2, d3] }
  | _ => none }
def FnExactFounderOfWrongFalsely : Prop := fnExactFounderOfRow.holds Try.pinned (OpenSpec.ofChange fnExactFounderOfWrong)

/-- 'laws.FnExactSameLine': WHATEVER THE INPUT: true; the input reads as it did. -/
def fnExactSameLineSpec : ChangeSpec := { name := "fnExactSameLine", fn := fun _ => fun
  | [d1, d2, d3, d4] => { results := [.lit (.bool true)], args := [d1, d2, d3, d4] }
  | _ => none }
def fnExactSameLineRow : OpenClaim := { program := "ytdhmnojnkgmmnaa", sum := "35f91c92153fe5403edb7a01232602071d51a31736535c0a77dfa742fdb85a8e", func := "loop.example/g03221/laws.FnExactSameLine", spec := "fnExactSameLine", unfollowed := true, recurses := true, plainKeys := false, apart := false }
def FnExactSameLineSaid : Prop := fnExactSameLineRow.holds Try.pinned (OpenSpec.ofChange fnExactSameLineSpec)

/-- ITS FALSE NEIGHBOUR: 'it returns false'. Refute it at one input. -/
def fnExactSameLineWrong : ChangeSpec := { name := "fnExactSameLine", fn := fun _ => fun
  | [d1, d2, d3, d4] => { results := [.lit (.bool false)], args := [d1, d2, d3, d4] }
  | _ => none }
def FnExactSameLineWrongFalsely : Prop := fnExactSameLineRow.holds Try.pinned (OpenSpec.ofChange fnExactSameLineWrong)

/-- 'laws.FnExactIsExogamous': WHATEVER THE INPUT: true; the input reads as it did. -/
def fnExactIsExogamousSpec : ChangeSpec := { name := "fnExactIsExogamous", fn := fun _ => fun
  | [d1, d2] => { results := [.lit (.bool true)], args := [d1, d2] }
  | _ => none }
def fnExactIsExogamousRow : OpenClaim := { program := "ytdhmnojnkgmmnaa", sum := "35f91c92153fe5403edb7a01232602071d51a31736535c0a77dfa742fdb85a8e", func := "loop.example/g03221/laws.FnExactIsExogamous", spec := "fnExactIsExogamous", unfollowed := true, recurses := true, plainKeys := false, apart := false }
def FnExactIsExogamousSaid : Prop := fnExactIsExogamousRow.holds Try.pinned (OpenSpec.ofChange fnExactIsExogamousSpec)

/-- ITS FALSE NEIGHBOUR: 'it returns false'. Refute it at one input. -/
def fnExactIsExogamousWrong : ChangeSpec := { name := "fnExactIsExogamous", fn := fun _ => fun
  | [d1, d2] => { results := [.lit (.bool false)], args := [d1, d2] }
  | _ => none }
def FnExactIsExogamousWrongFalsely : Prop := fnExactIsExogamousRow.holds Try.pinned (OpenSpec.ofChange fnExactIsExogamousWrong)

/-- 'laws.FnExactClassErrors': WHATEVER THE INPUT: true; the input reads as it did. -/
def fnExactClassErrorsSpec : ChangeSpec := { name := "fnExactClassErrors", fn := fun _ => fun
  | [d1, d2, d3] => { results := [.lit (.bool true)], args := [d1, d2, d3] }
  | _ => none }
def fnExactClassErrorsRow : OpenClaim := { program := "ytdhmnojnkgmmnaa", sum := "35f91c92153fe5403edb7a01232602071d51a31736535c0a77dfa742fdb85a8e", func := "loop.example/g03221/laws.FnExactClassErrors", spec := "fnExactClassErrors", unfollowed := true, recurses := true, plainKeys := false, apart := false }
def FnExactClassErrorsSaid : Prop := fnExactClassErrorsRow.holds Try.pinned (OpenSpec.ofChange fnExactClassErrorsSpec)

/-- ITS FALSE NEIGHBOUR: 'it returns false'. Refute it at one input. -/
def fnExactClassErrorsWrong : ChangeSpec := { name := "fnExactClassErrors", fn := fun _ => fun
  | [d1, d2, d3] => { results := [.lit (.bool false)], args := [d1, d2, d3] }
  | _ => none }
def FnExactClassErrorsWrongFalsely : Prop := fnExactClassErrorsRow.holds Try.pinned (OpenSpec.ofChange fnExactClassErrorsWrong)

/-- 'laws.FnExactPermutePeople': WHATEVER THE INPUT: true; the input reads as it did. -/
def fnExactPermutePeopleSpec : ChangeSpec := { name := "fnExactPermutePeople", fn := fun _ => fun
  | [d1, d2] => { results := [.lit (.bool true)], args := [d1, d2] }
  | _ => none }
def fnExactPermutePeopleRow : OpenClaim := { program := "ytdhmnojnkgmmnaa", sum := "35f91c92153fe5403edb7a01232602071d51a31736535c0a77dfa742fdb85a8e", func := "loop.example/g03221/laws.FnExactPermutePeople", spec := "fnExactPermutePeople", unfollowed := true, recurses := true, plainKeys := false, apart := false }
def FnExactPermutePeopleSaid : Prop := fnExactPermutePeopleRow.holds Try.pinned (OpenSpec.ofChange fnExactPermutePeopleSpec)

/-- ITS FALSE NEIGHBOUR: 'it returns false'. Refute it at one input. -/
def fnExactPermutePeopleWrong : ChangeSpec := { name := "fnExactPermutePeople", fn := fun _ => fun
  | [d1, d2] => { results := [.lit (.bool false)], args := [d1, d2] }
  | _ => none }
def FnExactPermutePeopleWrongFalsely : Prop := fnExactPermutePeopleRow.holds Try.pinned (OpenSpec.ofChange fnExactPermutePeopleWrong)

/-- 'laws.FnExactCanonicalClasses': WHATEVER THE INPUT: true; the input reads as it did. -/
def fnExactCanonicalClassesSpec : ChangeSpec := { name := "fnExactCanonicalClasses", fn := fun _ => fun
  | [d] => { results := [.lit (.bool true)], args := [d] }
  | _ => none }
def fnExactCanonicalClassesRow : OpenClaim := { program := "ytdhmnojnkgmmnaa", sum := "35f91c92153fe5403edb7a01232602071d51a31736535c0a77dfa742fdb85a8e", func := "loop.example/g03221/laws.FnExactCanonicalClasses", spec := "fnExactCanonicalClasses", unfollowed := true, recurses := true, plainKeys := false, apart := false }
def FnExactCanonicalClassesSaid : Prop := fnExactCanonicalClassesRow.holds Try.pinned (OpenSpec.ofChange fnExactCanonicalClassesSpec)

/-- ITS FALSE NEIGHBOUR: 'it returns false'. Refute it at one input. -/
def fnExactCanonicalClassesWrong : ChangeSpec := { name := "fnExactCanonicalClasses", fn := fun _ => fun
  | [d] => { results := [.lit (.bool false)], args := [d] }
  | _ => none }
def FnExactCanonicalClassesWrongFalsely : Prop := fnExactCanonicalClassesRow.holds Try.pinned (OpenSpec.ofChange fnExactCanonicalClassesWrong)

/-- 'laws.FnExactSameClasses': WHATEVER THE INPUT: true; the input reads as it did. -/
def fnExactSameClassesSpec : ChangeSpec := { name := "fnExactSameClasses", fn := fun _ => fun
  | [d1, d2] => { results := [.lit (.bool true)], args := [d1, d2] }
  | _ => none }
def fnExactSameClassesRow : OpenClaim := { program := "ytdhmnojnkgmmnaa", sum := "35f91c92153fe5403edb7a01232602071d51a31736535c0a77dfa742fdb85a8e", func := "loop.example/g03221/laws.FnExactSameClasses", spec := "fnExactSameClasses", unfollowed := true, recurses := true, plainKeys := false, apart := false }
def FnExactSameClassesSaid : Prop := fnExactSameClassesRow.holds Try.pinned (OpenSpec.ofChange fnExactSameClassesSpec)

/-- ITS FALSE NEIGHBOUR: 'it returns false'. Refute it at one input. -/
def fnExactSameClassesWrong : ChangeSpec := { name := "fnExactSameClasses", fn := fun _ => fun
  | [d1, d2] => { results := [.lit (.bool false)], args := [d1, d2] }
  | _ => none }
def FnExactSameClassesWrongFalsely : Prop := fnExactSameClassesRow.holds Try.pinned (OpenSpec.ofChange fnExactSameClassesWrong)

/-- 'laws.FnExactLinesOf': WHATEVER THE INPUT: true; the input reads as it did. -/
def fnExactLinesOfSpec : ChangeSpec := { name := "fnExactLinesOf", fn := fun _ => fun
  | [d1, d2] => { results := [.lit (.bool true)], args := [d1, d2] }
  | _ => none }
def fnExactLinesOfRow : OpenClaim := { program := "ytdhmnojnkgmmnaa", sum := "35f91c92153fe5403edb7a01232602071d51a31736535c0a77dfa742fdb85a8e", func := "loop.example/g03221/laws.FnExactLinesOf", spec := "fnExactLinesOf", unfollowed := true, recurses := true, plainKeys := false, apart := false }
def FnExactLinesOfSaid : Prop := fnExactLinesOfRow.holds Try.pinned (OpenSpec.ofChange fnExactLinesOfSpec)

/-- ITS FALSE NEIGHBOUR: 'it returns false'. Refute it at one input. -/
def fnExactLinesOfWrong : ChangeSpec := { name := "fnExactLinesOf", fn := fun _ => fun
  | [d1, d2] => { results := [.lit (.bool false)], args := [d1, d2] }
  | _ => none }
def FnExactLinesOfWrongFalsely : Prop := fnExactLinesOfRow.holds Try.pinned (OpenSpec.ofChange fnExactLinesOfWrong)

/-- 'laws.FnExactDoubleLines': WHATEVER THE INPUT: true; the input reads as it did. -/
def fnExactDoubleLinesSpec : ChangeSpec := { name := "fnExactDoubleLines", fn := fun _ => fun
  | [d] => { results := [.lit (.bool true)], args := [d] }
  | _ => none }
def fnExactDoubleLinesRow : OpenClaim := { program := "ytdhmnojnkgmmnaa", sum := "35f91c92153fe5403edb7a01232602071d51a31736535c0a77dfa742fdb85a8e", func := "loop.example/g03221/laws.FnExactDoubleLines", spec := "fnExactDoubleLines", unfollowed := true, recurses := true, plainKeys := false, apart := false }
def FnExactDoubleLinesSaid : Prop := fnExactDoubleLinesRow.holds Try.pinned (OpenSpec.ofChange fnExactDoubleLinesSpec)

/-- ITS FALSE NEIGHBOUR: 'it returns false'. Refute it at one input. -/
def fnExactDoubleLinesWrong : ChangeSpec := { name := "fnExactDoubleLines", fn := fun _ => fun
  | [d] => { results := [.lit (.bool false)], args := [d] }
  | _ => none }
def FnExactDoubleLinesWrongFalsely : Prop := fnExactDoubleLinesRow.holds Try.pinned (OpenSpec.ofChange fnExactDoubleLinesWrong)

/-- 'laws.FnExactMoietiesOf': WHATEVER THE INPUT: true; the input reads as it did. -/
def fnExactMoietiesOfSpec : ChangeSpec := { name := "fnExactMoietiesOf", fn := fun _ => fun
  | [d1, d2] => { results := [.lit (.bool true)], args := [d1, d2] }
  | _ => none }
def fnExactMoietiesOfRow : OpenClaim := { program := "ytdhmnojnkgmmnaa", sum := "35f91c92153fe5403edb7a01232602071d51a31736535c0a77dfa742fdb85a8e", func := "loop.example/g03221/laws.FnExactMoietiesOf", spec := "fnExactMoietiesOf", unfollowed := true, recurses := true, plainKeys := false, apart := false }
def FnExactMoietiesOfSaid : Prop := fnExactMoietiesOfRow.holds Try.pinned (OpenSpec.ofChange fnExactMoietiesOfSpec)

/-- ITS FALSE NEIGHBOUR: 'it returns false'. Refute it at one input. -/
def fnExactMoietiesOfWrong : ChangeSpec := { name := "fnExactMoietiesOf", fn := fun _ => fun
  | [d1, d2] => { results := [.lit (.bool false)], args := [d1, d2] }
  | _ => none }
def FnExactMoietiesOfWrongFalsely : Prop := fnExactMoietiesOfRow.holds Try.pinned (OpenSpec.ofChange fnExactMoietiesOfWrong)

/-- 'laws.FnExactAssignClasses': WHATEVER THE INPUT: true; the input reads as it did. -/
def fnExactAssignClassesSpec : ChangeSpec := { name := "fnExactAssignClasses", fn := fun _ => fun
  | [d1, d2, d3] => { results := [.lit (.bool true)], args := [d1, d2, d3] }
  | _ => none }
def fnExactAssignClassesRow : OpenClaim := { program := "ytdhmnojnkgmmnaa", sum := "35f91c92153fe5403edb7a01232602071d51a31736535c0a77dfa742fdb85a8e", func := "loop.example/g03221/laws.FnExactAssignClasses", spec := "fnExactAssignClasses", unfollowed := true, recurses := true, plainKeys := false, apart := false }
def FnExactAssignClassesSaid : Prop := fnExactAssignClassesRow.holds Try.pinned (OpenSpec.ofChange fnExactAssignClassesSpec)

/-- ITS FALSE NEIGHBOUR: 'it returns false'. Refute it at one input. -/
def fnExactAssignClassesWrong : ChangeSpec := { name := "fnExactAssignClasses", fn := fun _ => fun
  | [d1, d2, d3] => { results := [.lit (.bool false)], args := [d1, d2, d3] }
  | _ => none }
def FnExactAssignClassesWrongFalsely : Prop := fnExactAssignClassesRow.holds Try.pinned (OpenSpec.ofChange fnExactAssignClassesWrong)

/-- 'laws.FnExactChildrenOf': WHATEVER THE INPUT: true; the input reads as it did. -/
def fnExactChildrenOfSpec : ChangeSpec := { name := "fnExactChildrenOf", fn := fun _ => fun
  | [d1, d2] => { results := [.lit (.bool true)], args := [d1, d2] }
  | _ => none }
def fnExactChildrenOfRow : OpenClaim := { program := "ytdhmnojnkgmmnaa", sum := "35f91c92153fe5403edb7a01232602071d51a31736535c0a77dfa742fdb85a8e", func := "loop.example/g03221/laws.FnExactChildrenOf", spec := "fnExactChildrenOf", unfollowed := true, recurses := true, plainKeys := false, apart := false }
def FnExactChildrenOfSaid : Prop := fnExactChildrenOfRow.holds Try.pinned (OpenSpec.ofChange fnExactChildrenOfSpec)

/-- ITS FALSE NEIGHBOUR: 'it returns false'. Refute it at one input. -/
def fnExactChildrenOfWrong : ChangeSpec := { name := "fnExactChildrenOf", fn := fun _ => fun
  | [d1, d2] => { results := [.lit (.bool false)], args := [d1, d2] }
  | _ => none }
def FnExactChildrenOfWrongFalsely : Prop := fnExactChildrenOfRow.holds Try.pinned (OpenSpec.ofChange fnExactChildrenOfWrong)

/-- 'laws.FnExactFullSiblings': WHATEVER THE INPUT: true; the input reads as it did. -/
def fnExactFullSiblingsSpec : ChangeSpec := { name := "fnExactFullSiblings", fn := fun _ => fun
  | [d1, d2] => { results := [.lit (.bool true)], args := [d1, d2] }
  | _ => none }
def fnExactFullSiblingsRow : OpenClaim := { program := "ytdhmnojnkgmmnaa", sum := "35f91c92153fe5403edb7a01232602071d51a31736535c0a77dfa742fdb85a8e", func := "loop.example/g03221/laws.FnExactFullSiblings", spec := "fnExactFullSiblings", unfollowed := true, recurses := true, plainKeys := false, apart := false }
def FnExactFullSiblingsSaid : Prop := fnExactFullSiblingsRow.holds Try.pinned (OpenSpec.ofChange fnExactFullSiblingsSpec)

/-- ITS FALSE NEIGHBOUR: 'it returns false'. Refute it at one input. -/
def fnExactFullSiblingsWrong : ChangeSpec := { name := "fnExactFullSiblings", fn := fun _ => fun
  | [d1, d2] => { results := [.lit (.bool false)], args := [d1, d2] }
  | _ => none }
def FnExactFullSiblingsWrongFalsely : Prop := fnExactFullSiblingsRow.holds Try.pinned (OpenSpec.ofChange fnExactFullSiblingsWrong)

/-- 'laws.FnExactHalfSiblings': WHATEVER THE INPUT: true; the input reads as it did. -/
def fnExactHalfSiblingsSpec : ChangeSpec := { name := "fnExactHalfSiblings", fn := fun _ => fun
  | [d1, d2] => { results := [.lit (.bool true)], args := [d1, d2] }
  | _ => none }
def fnExactHalfSiblingsRow : OpenClaim := { program := "ytdhmnojnkgmmnaa", sum := "35f91c92153fe5403edb7a01232602071d51a31736535c0a77dfa742fdb85a8e", func := "loop.example/g03221/laws.FnExactHalfSiblings", spec := "fnExactHalfSiblings", unfollowed := true, recurses := true, plainKeys := false, apart := false }
def FnExactHalfSiblingsSaid : Prop := fnExactHalfSiblingsRow.holds Try.pinned (OpenSpec.ofChange fnExactHalfSiblingsSpec)

/-- ITS FALSE NEIGHBOUR: 'it returns false'. Refute it at one input. -/
def fnExactHalfSiblingsWrong : ChangeSpec := { name := "fnExactHalfSiblings", fn := fun _ => fun
  | [d1, d2] => { results := [.lit (.bool false)], args := [d1, d2] }
  | _ => none }
def FnExactHalfSiblingsWrongFalsely : Prop := fnExactHalfSiblingsRow.holds Try.pinned (OpenSpec.ofChange fnExactHalfSiblingsWrong)

/-- 'laws.FnExactTypesBetween': WHATEVER THE INPUT: true; the input reads as it did. -/
def fnExactTypesBetweenSpec : ChangeSpec := { name := "fnExactTypesBetween", fn := fun _ => fun
  | [d1, d2, d3, d4] => { results := [.lit (.bool true)], args := [d1, d2, d3, d4] }
  | _ => none }
def fnExactTypesBetweenRow : OpenClaim := { program := "ytdhmnojnkgmmnaa", sum := "35f91c92153fe5403edb7a01232602071d51a31736535c0a77dfa742fdb85a8e", func := "loop.example/g03221/laws.FnExactTypesBetween", spec := "fnExactTypesBetween", unfollowed := true, recurses := true, plainKeys := false, apart := false }
def FnExactTypesBetweenSaid : Prop := fnExactTypesBetweenRow.holds Try.pinned (OpenSpec.ofChange fnExactTypesBetweenSpec)

/-- ITS FALSE NEIGHBOUR: 'it returns false'. Refute it at one input. -/
def fnExactTypesBetweenWrong : ChangeSpec := { name := "fnExactTypesBetween", fn := fun _ => fun
  | [d1, d2, d3, d4] => { results := [.lit (.bool false)], args := [d1, d2, d3, d4] }
  | _ => none }
def FnExactTypesBetweenWrongFalsely : Prop := fnExactTypesBetweenRow.holds Try.pinned (OpenSpec.ofChange fnExactTypesBetweenWrong)

/-- 'laws.FnExactShortestType': WHATEVER THE INPUT: true; the input reads as it did. -/
def fnExactShortestTypeSpec : ChangeSpec := { name := "fnExactShortestType", fn := fun _ => fun
  | [d1, d2, d3] => { results := [.lit (.bool true)], args := [d1, d2, d3] }
  | _ => none }
def fnExactShortestTypeRow : OpenClaim := { program := "ytdhmnojnkgmmnaa", sum := "35f91c92153fe5403edb7a01232602071d51a31736535c0a77dfa742fdb85a8e", func := "loop.example/g03221/laws.FnExactShortestType", spec := "fnExactShortestType", unfollowed := true, recurses := true, plainKeys := false, apart := false }
def FnExactShortestTypeSaid : Prop := fnExactShortestTypeRow.holds Try.pinned (OpenSpec.ofChange fnExactShortestTypeSpec)

/-- ITS FALSE NEIGHBOUR: 'it returns false'. Refute it at one input. -/
def fnExactShortestTypeWrong : ChangeSpec := { name := "fnExactShortestType", fn := fun _ => fun
  | [d1, d2, d3] => { results := [.lit (.bool false)], args := [d1, d2, d3] }
  | _ => none }
def FnExactShortestTypeWrongFalsely : Prop := fnExactShortestTypeRow.holds Try.pinned (OpenSpec.ofChange fnExactShortestTypeWrong)

/-- 'laws.FnExactGroupOf': WHATEVER THE INPUT: true; the input reads as it did. -/
def fnExactGroupOfSpec : ChangeSpec := { name := "fnExactGroupOf", fn := fun _ => fun
  | [d] => { results := [.lit (.bool true)], args := [d] }
  | _ => none }
def fnExactGroupOfRow : OpenClaim := { program := "ytdhmnojnkgmmnaa", sum := "35f91c92153fe5403edb7a01232602071d51a31736535c0a77dfa742fdb85a8e", func := "loop.example/g03221/laws.FnExactGroupOf", spec := "fnExactGroupOf", unfollowed := true, recurses := true, plainKeys := false, apart := false }
def FnExactGroupOfSaid : Prop := fnExactGroupOfRow.holds Try.pinned (OpenSpec.ofChange fnExactGroupOfSpec)

/-- ITS FALSE NEIGHBOUR: 'it returns false'. Refute it at one input. -/
def fnExactGroupOfWrong : ChangeSpec := { name := "fnExactGroupOf", fn := fun _ => fun
  | [d] => { results := [.lit (.bool false)], args := [d] }
  | _ => none }
def FnExactGroupOfWrongFalsely : Prop := fnExactGroupOfRow.holds Try.pinned (OpenSpec.ofChange fnExactGroupOfWrong)

/-- 'laws.FnExactIsRegular': WHATEVER THE INPUT: true; the input reads as it did. -/
def fnExactIsRegularSpec : ChangeSpec := { name := "fnExactIsRegular", fn := fun _ => fun
  | [d] => { results := [.lit (.bool true)], args := [d] }
  | _ => none }
def fnExactIsRegularRow : OpenClaim := { program := "ytdhmnojnkgmmnaa", sum := "35f91c92153fe5403edb7a01232602071d51a31736535c0a77dfa742fdb85a8e", func := "loop.example/g03221/laws.FnExactIsRegular", spec := "fnExactIsRegular", unfollowed := true, recurses := true, plainKeys := false, apart := false }
def FnExactIsRegularSaid : Prop := fnExactIsRegularRow.holds Try.pinned (OpenSpec.ofChange fnExactIsRegularSpec)

/-- ITS FALSE NEIGHBOUR: 'it returns false'. Refute it at one input. -/
def fnExactIsRegularWrong : ChangeSpec := { name := "fnExactIsRegular", fn := fun _ => fun
  | [d] => { results := [.lit (.bool false)], args := [d] }
  | _ => none }
def FnExactIsRegularWrongFalsely : Prop := fnExactIsRegularRow.holds Try.pinned (OpenSpec.ofChange fnExactIsRegularWrong)

/-- 'laws.FnExactAllRegular': WHATEVER THE INPUT: true; the input reads as it did. -/
def fnExactAllRegularSpec : ChangeSpec := { name := "fnExactAllRegular", fn := fun _ => fun
  | [d] => { results := [.lit (.bool true)], args := [d] }
  | _ => none }
def fnExactAllRegularRow : OpenClaim := { program := "ytdhmnojnkgmmnaa", sum := "35f91c92153fe5403edb7a01232602071d51a31736535c0a77dfa742fdb85a8e", func := "loop.example/g03221/laws.FnExactAllRegular", spec := "fnExactAllRegular", unfollowed := true, recurses := true, plainKeys := false, apart := false }
def FnExactAllRegularSaid : Prop := fnExactAllRegularRow.holds Try.pinned (OpenSpec.ofChange fnExactAllRegularSpec)

/-- ITS FALSE NEIGHBOUR: 'it returns false'. Refute it at one input. -/
def fnExactAllRegularWrong : ChangeSpec := { name := "fnExactAllRegular", fn := fun _ => fun
  | [d] => { results := [.lit (.bool false)], args := [d] }
  | _ => none }
def FnExactAllRegularWrongFalsely : Prop := fnExactAllRegularRow.holds Try.pinned (OpenSpec.ofChange fnExactAllRegularWrong)

/-- 'laws.FnExactTypesFrom': WHATEVER THE INPUT: true; the input reads as it did. -/
def fnExactTypesFromSpec : ChangeSpec := { name := "fnExactTypesFrom", fn := fun _ => fun
  | [d1, d2] => { results := [.lit (.bool true)], args := [d1, d2] }
  | _ => none }
def fnExactTypesFromRow : OpenClaim := { program := "ytdhmnojnkgmmnaa", sum := "35f91c92153fe5403edb7a01232602071d51a31736535c0a77dfa742fdb85a8e", func := "loop.example/g03221/laws.FnExactTypesFrom", spec := "fnExactTypesFrom", plainKeys := false, apart := false }
def FnExactTypesFromSaid : Prop := fnExactTypesFromRow.holds Try.pinned (OpenSpec.ofChange fnExactTypesFromSpec)

/-- ITS FALSE NEIGHBOUR: 'it returns false'. Refute it at one input. -/
def fnExactTypesFromWrong : ChangeSpec := { name := "fnExactTypesFrom", fn := fun _ => fun
  | [d1, d2] => { results := [.lit (.bool false)], args := [d1, d2] }
  | _ => none }
def FnExactTypesFromWrongFalsely : Prop := fnExactTypesFromRow.holds Try.pinned (OpenSpec.ofChange fnExactTypesFromWrong)

/-- 'laws.FnExactAllowedTypes': WHATEVER THE INPUT: true; the input reads as it did. -/
def fnExactAllowedTypesSpec : ChangeSpec := { name := "fnExactAllowedTypes", fn := fun _ => fun
  | [d1, d2] => { results := [.lit (.bool true)], args := [d1, d2] }
  | _ => none }
def fnExactAllowedTypesRow : OpenClaim := { program := "ytdhmnojnkgmmnaa", sum := "35f91c92153fe5403edb7a01232602071d51a31736535c0a77dfa742fdb85a8e", func := "loop.example/g03221/laws.FnExactAllowedTypes", spec := "fnExactAllowedTypes", unfollowed := true, recurses := true, plainKeys := false, apart := false }
def FnExactAllowedTypesSaid : Prop := fnExactAllowedTypesRow.holds Try.pinned (OpenSpec.ofChange fnExactAllowedTypesSpec)

/-- ITS FALSE NEIGHBOUR: 'it returns false'. Refute it at one input. -/
def fnExactAllowedTypesWrong : ChangeSpec := { name := "fnExactAllowedTypes", fn := fun _ => fun
  | [d1, d2] => { results := [.lit (.bool false)], args := [d1, d2] }
  | _ => none }
def FnExactAllowedTypesWrongFalsely : Prop := fnExactAllowedTypesRow.holds Try.pinned (OpenSpec.ofChange fnExactAllowedTypesWrong)

/-- 'laws.FnSiblings': WHATEVER THE INPUT: true; the input reads as it did. -/
def fnSiblingsSpec : ChangeSpec := { name := "fnSiblings", fn := fun _ => fun
  | [d] => { results := [.lit (.bool true)], args := [d] }
  | _ => none }
def fnSiblingsRow : OpenClaim := { program := "ytdhmnojnkgmmnaa", sum := "35f91c92153fe5403edb7a01232602071d51a31736535c0a77dfa742fdb85a8e", func := "loop.example/g03221/laws.FnSiblings", spec := "fnSiblings", unfollowed := true, recurses := true, plainKeys := false, apart := false }
def FnSiblingsSaid : Prop := fnSiblingsRow.holds Try.pinned (OpenSpec.ofChange fnSiblingsSpec)

/-- ITS FALSE NEIGHBOUR: 'it returns false'. Refute it at one input. -/
def fnSiblingsWrong : ChangeSpec := { name := "fnSiblings", fn := fun _ => fun
  | [d] => { results := [.lit (.bool false)], args := [d] }
  | _ => none }
def FnSiblingsWrongFalsely : Prop := fnSiblingsRow.holds Try.pinned (OpenSpec.ofChange fnSiblingsWrong)

/-- 'laws.FnLines': WHATEVER THE INPUT: true; the input reads as it did. -/
def fnLinesSpec : ChangeSpec := { name := "fnLines", fn := fun _ => fun
  | [d] => { results := [.lit (.bool true)], args := [d] }
  | _ => none }
def fnLinesRow : OpenClaim := { program := "ytdhmnojnkgmmnaa", sum := "35f91c92153fe5403edb7a01232602071d51a31736535c0a77dfa742fdb85a8e", func := "loop.example/g03221/laws.FnLines", spec := "fnLines", unfollowed := true, recurses := true, plainKeys := false, apart := false }
def FnLinesSaid : Prop := fnLinesRow.holds Try.pinned (OpenSpec.ofChange fnLinesSpec)

/-- ITS FALSE NEIGHBOUR: 'it returns false'. Refute it at one input. -/
def fnLinesWrong : ChangeSpec := { name := "fnLines", fn := fun _ => fun
  | [d] => { results := [.lit (.bool false)], args := [d] }
  | _ => none }
def FnLinesWrongFalsely : Prop := fnLinesRow.holds Try.pinned (OpenSpec.ofChange fnLinesWrong)

/-- 'laws.FnMoieties': WHATEVER THE INPUT: true; the input reads as it did. -/
def fnMoietiesSpec : ChangeSpec := { name := "fnMoieties", fn := fun _ => fun
  | [d] => { results := [.lit (.bool true)], args := [d] }
  | _ => none }
def fnMoietiesRow : OpenClaim := { program := "ytdhmnojnkgmmnaa", sum := "35f91c92153fe5403edb7a01232602071d51a31736535c0a77dfa742fdb85a8e", func := "loop.example/g03221/laws.FnMoieties", spec := "fnMoieties", unfollowed := true, recurses := true, plainKeys := false, apart := false }
def FnMoietiesSaid : Prop := fnMoietiesRow.holds Try.pinned (OpenSpec.ofChange fnMoietiesSpec)

/-- ITS FALSE NEIGHBOUR: 'it returns false'. Refute it at one input. -/
def fnMoietiesWrong : ChangeSpec := { name := "fnMoieties", fn := fun _ => fun
  | [d] => { results := [.lit (.bool false)], args := [d] }
  | _ => none }
def FnMoietiesWrongFalsely : Prop := fnMoietiesRow.holds Try.pinned (OpenSpec.ofChange fnMoietiesWrong)

/- THE SECOND FORM. 'bulk': how many values and letters a reading holds, each counted each time it is reached (what is shared counts as often as it is met; a slice's spare places count too). A statement '..UptoSaid' is the law's where the arguments, and the package variables that the reading takes, are together of bulk at most 1048576: NARROWER than '..Said'. Prove '..Said' where nothing that the law and all that it calls make is longer than what came in: it says more and counts as full. Else prove '..UptoSaid'. A law counts once. -/
mutual
def uptoBulk {H : Type} : DataW H → Nat
  | .lit (.string bytes) => bytes.length + 1
  | .lit _ => 1
  | .nil => 1
  | .ptr d => uptoBulk d + 1
  | .slice elems spare => uptoBulkAll elems + uptoBulkAll spare + 1
  | .agg parts => uptoBulkAll parts + 1
  | .iface _ d => uptoBulk d + 1
  | .map entries => uptoBulkEntries entries + 1
  | .held _ => 1
def uptoBulkAll {H : Type} : List (DataW H) → Nat
  | [] => 0
  | d :: r => uptoBulk d + uptoBulkAll r
def uptoBulkEntries {H : Type} : List (Lit × DataW H) → Nat
  | [] => 0
  | x :: r => uptoBulkEntry x + uptoBulkEntries r
def uptoBulkEntry {H : Type} : Lit × DataW H → Nat
  | (.string bytes, d) => bytes.length + uptoBulk d + 1
  | (_, d) => uptoBulk d + 1
 end
def uptoSmall : (H : Type) → List (DataW H) → Bool := fun _ ds => decide (uptoBulkAll ds ≤ 1048576)
def OpenSpec.upto (s : _root_.Go.ChangeSpec) : _root_.Go.OpenSpec := { _root_.Go.OpenSpec.ofChange s with cond := some uptoSmall }

/-- 'laws.FnExactFounderOf', WHERE WHAT IT READS IS OF BULK AT MOST 1048576: true; the input reads as it did. -/
def fnExactFounderOfUptoRow : OpenClaim := { program := "ytdhmnojnkgmmnaa", sum := "35f91c92153fe5403edb7a01232602071d51a31736535c0a77dfa742fdb85a8e", func := "loop.example/g03221/laws.FnExactFounderOf", spec := "fnExactFounderOf", unfollowed := true, recurses := true, plainKeys := false, apart := false, narrowed := true }
def FnExactFounderOfUptoSaid : Prop := fnExactFounderOfUptoRow.holds Try.pinned (OpenSpec.upto fnExactFounderOfSpec)

/-- 'laws.FnExactSameLine', WHERE WHAT IT READS IS OF BULK AT MOST 1048576: true; the input reads as it did. -/
def fnExactSameLineUptoRow : OpenClaim := { program := "ytdhmnojnkgmmnaa", sum := "35f91c92153fe5403edb7a01232602071d51a31736535c0a77dfa742fdb85a8e", func := "loop.example/g03221/laws.FnExactSameLine", spec := "fnExactSameLine", unfollowed := true, recurses := true, plainKeys := false, apart := false, narrowed := true }
def FnExactSameLineUptoSaid : Prop := fnExactSameLineUptoRow.holds Try.pinned (OpenSpec.upto fnExactSameLineSpec)

/-- 'laws.FnExactIsExogamous', WHERE WHAT IT READS IS OF BULK AT MOST 1048576: true; the input reads as it did. -/
def fnExactIsExogamousUptoRow : OpenClaim := { program := "ytdhmnojnkgmmnaa", sum := "35f91c92153fe5403edb7a01232602071d51a31736535c0a77dfa742fdb85a8e", func := "loop.example/g03221/laws.FnExactIsExogamous", spec := "fnExactIsExogamous", unfollowed := true, recurses := true, plainKeys := false, apart := false, narrowed := true }
def FnExactIsExogamousUptoSaid : Prop := fnExactIsExogamousUptoRow.holds Try.pinned (OpenSpec.upto fnExactIsExogamousSpec)

/-- 'laws.FnExactClassErrors', WHERE WHAT IT READS IS OF BULK AT MOST 1048576: true; the input reads as it did. -/
def fnExactClassErrorsUptoRow : OpenClaim := { program := "ytdhmnojnkgmmnaa", sum := "35f91c92153fe5403edb7a01232602071d51a31736535c0a77dfa742fdb85a8e", func := "loop.example/g03221/laws.FnExactClassErrors", spec := "fnExactClassErrors", unfollowed := true, recurses := true, plainKeys := false, apart := false, narrowed := true }
def FnExactClassErrorsUptoSaid : Prop := fnExactClassErrorsUptoRow.holds Try.pinned (OpenSpec.upto fnExactClassErrorsSpec)

/-- 'laws.FnExactPermutePeople', WHERE WHAT IT READS IS OF BULK AT MOST 1048576: true; the input reads as it did. -/
def fnExactPermutePeopleUptoRow : OpenClaim := { program := "ytdhmnojnkgmmnaa", sum := "35f91c92153fe5403edb7a01232602071d51a31736535c0a77dfa742fdb85a8e", func := "loop.example/g03221/laws.FnExactPermutePeople", spec := "fnExactPermutePeople", unfollowed := true, recurses := true, plainKeys := false, apart := false, narrowed := true }
def FnExactPermutePeopleUptoSaid : Prop := fnExactPermutePeopleUptoRow.holds Try.pinned (OpenSpec.upto fnExactPermutePeopleSpec)

/-- 'laws.FnExactCanonicalClasses', WHERE WHAT IT READS IS OF BULK AT MOST 1048576: true; the input reads as it did. -/
def fnExactCanonicalClassesUptoRow : OpenClaim := { program := "ytdhmnojnkgmmnaa", sum := "35f91c92153fe5403edb7a01232602071d51a31736535c0a77dfa742fdb85a8e", func := "loop.example/g03221/laws.FnExactCanonicalClasses", spec := "fnExactCanonicalClasses", unfollowed := true, recurses := true, plainKeys := false, apart := false, narrowed := true }
def FnExactCanonicalClassesUptoSaid : Prop := fnExactCanonicalClassesUptoRow.holds Try.pinned (OpenSpec.upto fnExactCanonicalClassesSpec)

/-- 'laws.FnExactSameClasses', WHERE WHAT IT READS IS OF BULK AT MOST 1048576: true; the input reads as it did. -/
def fnExactSameClassesUptoRow : OpenClaim := { program := "ytdhmnojnkgmmnaa", sum := "35f91c92153fe5403edb7a01232602071d51a31736535c0a77dfa742fdb85a8e", func := "loop.example/g03221/laws.FnExactSameClasses", spec := "fnExactSameClasses", unfollowed := true, recurses := true, plainKeys := false, apart := false, narrowed := true }
def FnExactSameClassesUptoSaid : Prop := fnExactSameClassesUptoRow.holds Try.pinned (OpenSpec.upto fnExactSameClassesSpec)

/-- 'laws.FnExactLinesOf', WHERE WHAT IT READS IS OF BULK AT MOST 1048576: true; the input reads as it did. -/
def fnExactLinesOfUptoRow : OpenClaim := { program := "ytdhmnojnkgmmnaa", sum := "35f91c92153fe5403edb7a01232602071d51a31736535c0a77dfa742fdb85a8e", func := "loop.example/g03221/laws.FnExactLinesOf", spec := "fnExactLinesOf", unfollowed := true, recurses := true, plainKeys := false, apart := false, narrowed := true }
def FnExactLinesOfUptoSaid : Prop := fnExactLinesOfUptoRow.holds Try.pinned (OpenSpec.upto fnExactLinesOfSpec)

/-- 'laws.FnExactDoubleLines', WHERE WHAT IT READS IS OF BULK AT MOST 1048576: true; the input reads as it did. -/
def fnExactDoubleLinesUptoRow : OpenClaim := { program := "ytdhmnojnkgmmnaa", sum := "35f91c92153fe5403edb7a01232602071d51a31736535c0a77dfa742fdb85a8e", func := "loop.example/g03221/laws.FnExactDoubleLines", spec := "fnExactDoubleLines", unfollowed := true, recurses := true, plainKeys := false, apart := false, narrowed := true }
def FnExactDoubleLinesUptoSaid : Prop := fnExactDoubleLinesUptoRow.holds Try.pinned (OpenSpec.upto fnExactDoubleLinesSpec)

/-- 'laws.FnExactMoietiesOf', WHERE WHAT IT READS IS OF BULK AT MOST 1048576: true; the input reads as it did. -/
def fnExactMoietiesOfUptoRow : OpenClaim := { program := "ytdhmnojnkgmmnaa", sum := "35f91c92153fe5403edb7a01232602071d51a31736535c0a77dfa742fdb85a8e", func := "loop.example/g03221/laws.FnExactMoietiesOf", spec := "fnExactMoietiesOf", unfollowed := true, recurses := true, plainKeys := false, apart := false, narrowed := true }
def FnExactMoietiesOfUptoSaid : Prop := fnExactMoietiesOfUptoRow.holds Try.pinned (OpenSpec.upto fnExactMoietiesOfSpec)

/-- 'laws.FnExactAssignClasses', WHERE WHAT IT READS IS OF BULK AT MOST 1048576: true; the input reads as it did. -/
def fnExactAssignClassesUptoRow : OpenClaim := { program := "ytdhmnojnkgmmnaa", sum := "35f91c92153fe5403edb7a01232602071d51a31736535c0a77dfa742fdb85a8e", func := "loop.example/g03221/laws.FnExactAssignClasses", spec := "fnExactAssignClasses", unfollowed := true, recurses := true, plainKeys := false, apart := false, narrowed := true }
def FnExactAssignClassesUptoSaid : Prop := fnExactAssignClassesUptoRow.holds Try.pinned (OpenSpec.upto fnExactAssignClassesSpec)

/-- 'laws.FnExactChildrenOf', WHERE WHAT IT READS IS OF BULK AT MOST 1048576: true; the input reads as it did. -/
def fnExactChildrenOfUptoRow : OpenClaim := { program := "ytdhmnojnkgmmnaa", sum := "35f91c92153fe5403edb7a01232602071d51a31736535c0a77dfa742fdb85a8e", func := "loop.example/g03221/laws.FnExactChildrenOf", spec := "fnExactChildrenOf", unfollowed := true, recurses := true, plainKeys := false, apart := false, narrowed := true }
def FnExactChildrenOfUptoSaid : Prop := fnExactChildrenOfUptoRow.holds Try.pinned (OpenSpec.upto fnExactChildrenOfSpec)

/-- 'laws.FnExactFullSiblings', WHERE WHAT IT READS IS OF BULK AT MOST 1048576: true; the input reads as it did. -/
def fnExactFullSiblingsUptoRow : OpenClaim := { program := "ytdhmnojnkgmmnaa", sum := "35f91c92153fe5403edb7a01232602071d51a31736535c0a77dfa742fdb85a8e", func := "loop.example/g03221/laws.FnExactFullSiblings", spec := "fnExactFullSiblings", unfollowed := true, recurses := true, plainKeys := false, apart := false, narrowed := true }
def FnExactFullSiblingsUptoSaid : Prop := fnExactFullSiblingsUptoRow.holds Try.pinned (OpenSpec.upto fnExactFullSiblingsSpec)

/-- 'laws.FnExactHalfSiblings', WHERE WHAT IT READS IS OF BULK AT MOST 1048576: true; the input reads as it did. -/
def fnExactHalfSiblingsUptoRow : OpenClaim := { program := "ytdhmnojnkgmmnaa", sum := "35f91c92153fe5403edb7a01232602071d51a31736535c0a77dfa742fdb85a8e", func := "loop.example/g03221/laws.FnExactHalfSiblings", spec := "fnExactHalfSiblings", unfollowed := true, recurses := true, plainKeys := false, apart := false, narrowed := true }
def FnExactHalfSiblingsUptoSaid : Prop := fnExactHalfSiblingsUptoRow.holds Try.pinned (OpenSpec.upto fnExactHalfSiblingsSpec)

/-- 'laws.FnExactTypesBetween', WHERE WHAT IT READS IS OF BULK AT MOST 1048576: true; the input reads as it did. -/
def fnExactTypesBetweenUptoRow : OpenClaim := { program := "ytdhmnojnkgmmnaa", sum := "35f91c92153fe5403edb7a01232602071d51a31736535c0a77dfa742fdb85a8e", func := "loop.example/g03221/laws.FnExactTypesBetween", spec := "fnExactTypesBetween", unfollowed := true, recurses := true, plainKeys := false, apart := false, narrowed := true }
def FnExactTypesBetweenUptoSaid : Prop := fnExactTypesBetweenUptoRow.holds Try.pinned (OpenSpec.upto fnExactTypesBetweenSpec)

/-- 'laws.FnExactShortestType', WHERE WHAT IT READS IS OF BULK AT MOST 1048576: true; the input reads as it did. -/
def fnExactShortestTypeUptoRow : OpenClaim := { program := "ytdhmnojnkgmmnaa", sum := "35f91c92153fe5403edb7a01232602071d51a31736535c0a77dfa742fdb85a8e", func := "loop.example/g03221/laws.FnExactShortestType", spec := "fnExactShortestType", unfollowed := true, recurses := true, plainKeys := false, apart := false, narrowed := true }
def FnExactShortestTypeUptoSaid : Prop := fnExactShortestTypeUptoRow.holds Try.pinned (OpenSpec.upto fnExactShortestTypeSpec)

/-- 'laws.FnExactGroupOf', WHERE WHAT IT READS IS OF BULK AT MOST 1048576: true; the input reads as it did. -/
def fnExactGroupOfUptoRow : OpenClaim := { program := "ytdhmnojnkgmmnaa", sum := "35f91c92153fe5403edb7a01232602071d51a31736535c0a77dfa742fdb85a8e", func := "loop.example/g03221/laws.FnExactGroupOf", spec := "fnExactGroupOf", unfollowed := true, recurses := true, plainKeys := false, apart := false, narrowed := true }
def FnExactGroupOfUptoSaid : Prop := fnExactGroupOfUptoRow.holds Try.pinned (OpenSpec.upto fnExactGroupOfSpec)

/-- 'laws.FnExactIsRegular', WHERE WHAT IT READS IS OF BULK AT MOST 1048576: true; the input reads as it did. -/
def fnExactIsRegularUptoRow : OpenClaim := { program := "ytdhmnojnkgmmnaa", sum := "35f91c92153fe5403edb7a01232602071d51a31736535c0a77dfa742fdb85a8e", func := "loop.example/g03221/laws.FnExactIsRegular", spec := "fnExactIsRegular", unfollowed := true, recurses := true, plainKeys := false, apart := false, narrowed := true }
def FnExactIsRegularUptoSaid : Prop := fnExactIsRegularUptoRow.holds Try.pinned (OpenSpec.upto fnExactIsRegularSpec)

/-- 'laws.FnExactAllRegular', WHERE WHAT IT READS IS OF BULK AT MOST 1048576: true; the input reads as it did. -/
def fnExactAllRegularUptoRow : OpenClaim := { program := "ytdhmnojnkgmmnaa", sum := "35f91c92153fe5403edb7a01232602071d51a31736535c0a77dfa742fdb85a8e", func := "loop.example/g03221/laws.FnExactAllRegular", spec := "fnExactAllRegular", unfollowed := true, recurses := true, plainKeys := false, apart := false, narrowed := true }
def FnExactAllRegularUptoSaid : Prop := fnExactAllRegularUptoRow.holds Try.pinned (OpenSpec.upto fnExactAllRegularSpec)

/-- 'laws.FnExactTypesFrom', WHERE WHAT IT READS IS OF BULK AT MOST 1048576: true; the input reads as it did. -/
def fnExactTypesFromUptoRow : OpenClaim := { program := "ytdhmnojnkgmmnaa", sum := "35f91c92153fe5403edb7a01232602071d51a31736535c0a77dfa742fdb85a8e", func := "loop.example/g03221/laws.FnExactTypesFrom", spec := "fnExactTypesFrom", plainKeys := false, apart := false, narrowed := true }
def FnExactTypesFromUptoSaid : Prop := fnExactTypesFromUptoRow.holds Try.pinned (OpenSpec.upto fnExactTypesFromSpec)

/-- 'laws.FnExactAllowedTypes', WHERE WHAT IT READS IS OF BULK AT MOST 1048576: true; the input reads as it did. -/
def fnExactAllowedTypesUptoRow : OpenClaim := { program := "ytdhmnojnkgmmnaa", sum := "35f91c92153fe5403edb7a01232602071d51a31736535c0a77dfa742fdb85a8e", func := "loop.example/g03221/laws.FnExactAllowedTypes", spec := "fnExactAllowedTypes", unfollowed := true, recurses := true, plainKeys := false, apart := false, narrowed := true }
def FnExactAllowedTypesUptoSaid : Prop := fnExactAllowedTypesUptoRow.holds Try.pinned (OpenSpec.upto fnExactAllowedTypesSpec)

/-- 'laws.FnSiblings', WHERE WHAT IT READS IS OF BULK AT MOST 1048576: true; the input reads as it did. -/
def fnSiblingsUptoRow : OpenClaim := { program := "ytdhmnojnkgmmnaa", sum := "35f91c92153fe5403edb7a01232602071d51a31736535c0a77dfa742fdb85a8e", func := "loop.example/g03221/laws.FnSiblings", spec := "fnSiblings", unfollowed := true, recurses := true, plainKeys := false, apart := false, narrowed := true }
def FnSiblingsUptoSaid : Prop := fnSiblingsUptoRow.holds Try.pinned (OpenSpec.upto fnSiblingsSpec)

/-- 'laws.FnLines', WHERE WHAT IT READS IS OF BULK AT MOST 1048576: true; the input reads as it did. -/
def fnLinesUptoRow : OpenClaim := { program := "ytdhmnojnkgmmnaa", sum := "35f91c92153fe5403edb7a01232602071d51a31736535c0a77dfa742fdb85a8e", func := "loop.example/g03221/laws.FnLines", spec := "fnLines", unfollowed := true, recurses := true, plainKeys := false, apart := false, narrowed := true }
def FnLinesUptoSaid : Prop := fnLinesUptoRow.holds Try.pinned (OpenSpec.upto fnLinesSpec)

/-- 'laws.FnMoieties', WHERE WHAT IT READS IS OF BULK AT MOST 1048576: true; the input reads as it did. -/
def fnMoietiesUptoRow : OpenClaim := { program := "ytdhmnojnkgmmnaa", sum := "35f91c92153fe5403edb7a01232602071d51a31736535c0a77dfa742fdb85a8e", func := "loop.example/g03221/laws.FnMoieties", spec := "fnMoieties", unfollowed := true, recurses := true, plainKeys := false, apart := false, narrowed := true }
def FnMoietiesUptoSaid : Prop := fnMoietiesUptoRow.holds Try.pinned (OpenSpec.upto fnMoietiesSpec)

end Rows
end Go.Proofs.Ytdhmnojnkgmmnaa
