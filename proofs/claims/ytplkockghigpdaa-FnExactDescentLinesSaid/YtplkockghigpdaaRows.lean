/-
  No cell of these rows narrows 'for every input' (looked for: loops, veiled, ifaces, maps, wideKeys, modest, calm, conditions, laid).
  DERIVED. THE GIVEN ROWS OF THIS SEAT. 18 by the template 'for every input the law returns true; each argument reads behind the call as it read before'; 0 by the template 'total and deterministic' (their statements: YtplkockghigpdaaTotals.lean).
  GIVEN WITH THE SEED: the statements are not yours to turn. If you find one false, say at which input.
  Laid BY PROGRAM, IN A SANDBOX (cutbox-rows.mjs): the forced cells as the released guide's own fill.sh prints them over the translation 5009e3ecebc0741c… (all of the seat's roots in one cut). By AI agents, Wed Nov 11 2026. No macro, syntax, notation, axiom, sorry.
-/
import Derived.Test.YtplkockghigpdaaChecked
import GoSem.Claim
import GoSem.ClaimJoined
import GoSem.ClaimMapViews
import Derived.JoinedTies
import Derived.KernelRfl
namespace Go.Proofs.Ytplkockghigpdaa
/- THE CELL 'sum', in the pinned program and in every row, IS THE sha256 OF THE DUMP (.gsa) THAT YtplkockghigpdaaProg.lean LOADS. Nothing in Lean hashes anything: it is a label: what it is worth is what the hold of that sum in a sandbox is worth. -/
noncomputable def Try.pinned : Pinned := { name := "ytplkockghigpdaa", sum := "5009e3ecebc0741cca451f56d0437a8270e070079b045a0a1608cfbf2d82a8a0", checked := Try.checked }
namespace Rows
def none {H : Type} : Left H := { results := [], args := [] }

/-- 'laws.FnExactChildrenOf': WHATEVER THE INPUT: true; the input reads as it did. -/
def fnExactChildrenOfSpec : ChangeSpec := { name := "fnExactChildrenOf", fn := fun _ => fun
  | [d1, d2] => { results := [.lit (.bool true)], args := [d1, d2] }
  | _ => none }
def fnExactChildrenOfRow : OpenClaim := { program := "ytplkockghigpdaa", sum := "5009e3ecebc0741cca451f56d0437a8270e070079b045a0a1608cfbf2d82a8a0", func := "loop.example/g03221/laws.FnExactChildrenOf", spec := "fnExactChildrenOf", unfollowed := true, recurses := true, plainKeys := false, apart := false }
def FnExactChildrenOfSaid : Prop := fnExactChildrenOfRow.holds Try.pinned (OpenSpec.ofChange fnExactChildrenOfSpec)

/-- ITS FALSE NEIGHBOUR: 'it returns false'. Refute it at one input. -/
def fnExactChildrenOfWrong : ChangeSpec := { name := "fnExactChildrenOf", fn := fun _ => fun
  | [d1, d2] => { results := [.lit (.bool false)], args := [d1, d2] }
  | _ => none }
def FnExactChildrenOfWrongFalsely : Prop := fnExactChildrenOfRow.holds Try.pinned (OpenSpec.ofChange fnExactChildrenOfWrong)

/-- 'laws.FnExactFullSiblings': WHATEVER THE INPUT: true; the input reads as it did. -/
def fnExactFullSiblingsSpec : ChangeSpec := { name := "fnExactFullSiblings", fn := fun _ => fun
  | [d1, d2] => { results := [.lit (.bool true)], args := [d1, d2] }
  | _ => none }
def fnExactFullSiblingsRow : OpenClaim := { program := "ytplkockghigpdaa", sum := "5009e3ecebc0741cca451f56d0437a8270e070079b045a0a1608cfbf2d82a8a0", func := "loop.example/g03221/laws.FnExactFullSiblings", spec := "fnExactFullSiblings", unfollowed := true, recurses := true, plainKeys := false, apart := false }
def FnExactFullSiblingsSaid : Prop := fnExactFullSiblingsRow.holds Try.pinned (OpenSpec.ofChange fnExactFullSiblingsSpec)

/-- ITS FALSE NEIGHBOUR: 'it returns false'. Refute it at one input. -/
def fnExactFullSiblingsWrong : ChangeSpec := { name := "fnExactFullSiblings", fn := fun _ => fun
  | [d1, d2] => { results := [.lit (.bool false)], args := [d1, d2] }
  | _ => none }
def FnExactFullSiblingsWrongFalsely : Prop := fnExactFullSiblingsRow.holds Try.pinned (OpenSpec.ofChange fnExactFullSiblingsWrong)

/-- 'laws.FnExactHalfSiblings': WHATEVER THE INPUT: true; the input reads as it did. -/
def fnExactHalfSiblingsSpec : ChangeSpec := { name := "fnExactHalfSiblings", fn := fun _ => fun
  | [d1, d2] => { results := [.lit (.bool true)], args := [d1, d2] }
  | _ => none }
def fnExactHalfSiblingsRow : OpenClaim := { program := "ytplkockghigpdaa", sum := "5009e3ecebc0741cca451f56d0437a8270e070079b045a0a1608cfbf2d82a8a0", func := "loop.example/g03221/laws.FnExactHalfSiblings", spec := "fnExactHalfSiblings", unfollowed := true, recurses := true, plainKeys := false, apart := false }
def FnExactHalfSiblingsSaid : Prop := fnExactHalfSiblingsRow.holds Try.pinned (OpenSpec.ofChange fnExactHalfSiblingsSpec)

/-- ITS FALSE NEIGHBOUR: 'it returns false'. Refute it at one input. -/
def fnExactHalfSiblingsWrong : ChangeSpec := { name := "fnExactHalfSiblings", fn := fun _ => fun
  | [d1, d2] => { results := [.lit (.bool false)], args := [d1, d2] }
  | _ => none }
def FnExactHalfSiblingsWrongFalsely : Prop := fnExactHalfSiblingsRow.holds Try.pinned (OpenSpec.ofChange fnExactHalfSiblingsWrong)

/-- 'laws.FnExactAncestorsOf': WHATEVER THE INPUT: true; the input reads as it did. -/
def fnExactAncestorsOfSpec : ChangeSpec := { name := "fnExactAncestorsOf", fn := fun _ => fun
  | [d1, d2] => { results := [.lit (.bool true)], args := [d1, d2] }
  | _ => none }
def fnExactAncestorsOfRow : OpenClaim := { program := "ytplkockghigpdaa", sum := "5009e3ecebc0741cca451f56d0437a8270e070079b045a0a1608cfbf2d82a8a0", func := "loop.example/g03221/laws.FnExactAncestorsOf", spec := "fnExactAncestorsOf", unfollowed := true, recurses := true, plainKeys := false, apart := false }
def FnExactAncestorsOfSaid : Prop := fnExactAncestorsOfRow.holds Try.pinned (OpenSpec.ofChange fnExactAncestorsOfSpec)

/-- ITS FALSE NEIGHBOUR: 'it returns false'. Refute it at one input. -/
def fnExactAncestorsOfWrong : ChangeSpec := { name := "fnExactAncestorsOf", fn := fun _ => fun
  | [d1, d2] => { results := [.lit (.bool false)], args := [d1, d2] }
  | _ => none }
def FnExactAncestorsOfWrongFalsely : Prop := fnExactAncestorsOfRow.holds Try.pinned (OpenSpec.ofChange fnExactAncestorsOfWrong)

/-- 'laws.FnExactDescendantsOf': WHATEVER THE INPUT: true; the input reads as it did. -/
def fnExactDescendantsOfSpec : ChangeSpec := { name := "fnExactDescendantsOf", fn := fun _ => fun
  | [d1, d2] => { results := [.lit (.bool true)], args := [d1, d2] }
  | _ => none }
def fnExactDescendantsOfRow : OpenClaim := { program := "ytplkockghigpdaa", sum := "5009e3ecebc0741cca451f56d0437a8270e070079b045a0a1608cfbf2d82a8a0", func := "loop.example/g03221/laws.FnExactDescendantsOf", spec := "fnExactDescendantsOf", unfollowed := true, recurses := true, plainKeys := false, apart := false }
def FnExactDescendantsOfSaid : Prop := fnExactDescendantsOfRow.holds Try.pinned (OpenSpec.ofChange fnExactDescendantsOfSpec)

/-- ITS FALSE NEIGHBOUR: 'it returns false'. Refute it at one input. -/
def fnExactDescendantsOfWrong : ChangeSpec := { name := "fnExactDescendantsOf", fn := fun _ => fun
  | [d1, d2] => { results := [.lit (.bool false)], args := [d1, d2] }
  | _ => none }
def FnExactDescendantsOfWrongFalsely : Prop := fnExactDescendantsOfRow.holds Try.pinned (OpenSpec.ofChange fnExactDescendantsOfWrong)

/-- 'laws.FnExactStepsUp': WHATEVER THE INPUT: true; the input reads as it did. -/
def fnExactStepsUpSpec : ChangeSpec := { name := "fnExactStepsUp", fn := fun _ => fun
  | [d1, d2, d3] => { results := [.lit (.bool true)], args := [d1, d2, d3] }
  | _ => none }
def fnExactStepsUpRow : OpenClaim := { program := "ytplkockghigpdaa", sum := "5009e3ecebc0741cca451f56d0437a8270e070079b045a0a1608cfbf2d82a8a0", func := "loop.example/g03221/laws.FnExactStepsUp", spec := "fnExactStepsUp", unfollowed := true, recurses := true, plainKeys := false, apart := false }
def FnExactStepsUpSaid : Prop := fnExactStepsUpRow.holds Try.pinned (OpenSpec.ofChange fnExactStepsUpSpec)

/-- ITS FALSE NEIGHBOUR: 'it returns false'. Refute it at one input. -/
def fnExactStepsUpWrong : ChangeSpec := { name := "fnExactStepsUp", fn := fun _ => fun
  | [d1, d2, d3] => { results := [.lit (.bool false)], args := [d1, d2, d3] }
  | _ => none }
def FnExactStepsUpWrongFalsely : Prop := fnExactStepsUpRow.holds Try.pinned (OpenSpec.ofChange fnExactStepsUpWrong)

/-- 'laws.FnExactCommonAncestors': WHATEVER THE INPUT: true; the input reads as it did. -/
def fnExactCommonAncestorsSpec : ChangeSpec := { name := "fnExactCommonAncestors", fn := fun _ => fun
  | [d1, d2, d3] => { results := [.lit (.bool true)], args := [d1, d2, d3] }
  | _ => none }
def fnExactCommonAncestorsRow : OpenClaim := { program := "ytplkockghigpdaa", sum := "5009e3ecebc0741cca451f56d0437a8270e070079b045a0a1608cfbf2d82a8a0", func := "loop.example/g03221/laws.FnExactCommonAncestors", spec := "fnExactCommonAncestors", unfollowed := true, recurses := true, plainKeys := false, apart := false }
def FnExactCommonAncestorsSaid : Prop := fnExactCommonAncestorsRow.holds Try.pinned (OpenSpec.ofChange fnExactCommonAncestorsSpec)

/-- ITS FALSE NEIGHBOUR: 'it returns false'. Refute it at one input. -/
def fnExactCommonAncestorsWrong : ChangeSpec := { name := "fnExactCommonAncestors", fn := fun _ => fun
  | [d1, d2, d3] => { results := [.lit (.bool false)], args := [d1, d2, d3] }
  | _ => none }
def FnExactCommonAncestorsWrongFalsely : Prop := fnExactCommonAncestorsRow.holds Try.pinned (OpenSpec.ofChange fnExactCommonAncestorsWrong)

/-- 'laws.FnExactNearestCommon': WHATEVER THE INPUT: true; the input reads as it did. -/
def fnExactNearestCommonSpec : ChangeSpec := { name := "fnExactNearestCommon", fn := fun _ => fun
  | [d1, d2, d3] => { results := [.lit (.bool true)], args := [d1, d2, d3] }
  | _ => none }
def fnExactNearestCommonRow : OpenClaim := { program := "ytplkockghigpdaa", sum := "5009e3ecebc0741cca451f56d0437a8270e070079b045a0a1608cfbf2d82a8a0", func := "loop.example/g03221/laws.FnExactNearestCommon", spec := "fnExactNearestCommon", unfollowed := true, recurses := true, plainKeys := false, apart := false }
def FnExactNearestCommonSaid : Prop := fnExactNearestCommonRow.holds Try.pinned (OpenSpec.ofChange fnExactNearestCommonSpec)

/-- ITS FALSE NEIGHBOUR: 'it returns false'. Refute it at one input. -/
def fnExactNearestCommonWrong : ChangeSpec := { name := "fnExactNearestCommon", fn := fun _ => fun
  | [d1, d2, d3] => { results := [.lit (.bool false)], args := [d1, d2, d3] }
  | _ => none }
def FnExactNearestCommonWrongFalsely : Prop := fnExactNearestCommonRow.holds Try.pinned (OpenSpec.ofChange fnExactNearestCommonWrong)

/-- 'laws.FnExactLinkOf': WHATEVER THE INPUT: true; the input reads as it did. -/
def fnExactLinkOfSpec : ChangeSpec := { name := "fnExactLinkOf", fn := fun _ => fun
  | [d1, d2, d3] => { results := [.lit (.bool true)], args := [d1, d2, d3] }
  | _ => none }
def fnExactLinkOfRow : OpenClaim := { program := "ytplkockghigpdaa", sum := "5009e3ecebc0741cca451f56d0437a8270e070079b045a0a1608cfbf2d82a8a0", func := "loop.example/g03221/laws.FnExactLinkOf", spec := "fnExactLinkOf", unfollowed := true, recurses := true, plainKeys := false, apart := false }
def FnExactLinkOfSaid : Prop := fnExactLinkOfRow.holds Try.pinned (OpenSpec.ofChange fnExactLinkOfSpec)

/-- ITS FALSE NEIGHBOUR: 'it returns false'. Refute it at one input. -/
def fnExactLinkOfWrong : ChangeSpec := { name := "fnExactLinkOf", fn := fun _ => fun
  | [d1, d2, d3] => { results := [.lit (.bool false)], args := [d1, d2, d3] }
  | _ => none }
def FnExactLinkOfWrongFalsely : Prop := fnExactLinkOfRow.holds Try.pinned (OpenSpec.ofChange fnExactLinkOfWrong)

/-- 'laws.FnExactCivilDegree': WHATEVER THE INPUT: true; the input reads as it did. -/
def fnExactCivilDegreeSpec : ChangeSpec := { name := "fnExactCivilDegree", fn := fun _ => fun
  | [d1, d2, d3] => { results := [.lit (.bool true)], args := [d1, d2, d3] }
  | _ => none }
def fnExactCivilDegreeRow : OpenClaim := { program := "ytplkockghigpdaa", sum := "5009e3ecebc0741cca451f56d0437a8270e070079b045a0a1608cfbf2d82a8a0", func := "loop.example/g03221/laws.FnExactCivilDegree", spec := "fnExactCivilDegree", unfollowed := true, recurses := true, plainKeys := false, apart := false }
def FnExactCivilDegreeSaid : Prop := fnExactCivilDegreeRow.holds Try.pinned (OpenSpec.ofChange fnExactCivilDegreeSpec)

/-- ITS FALSE NEIGHBOUR: 'it returns false'. Refute it at one input. -/
def fnExactCivilDegreeWrong : ChangeSpec := { name := "fnExactCivilDegree", fn := fun _ => fun
  | [d1, d2, d3] => { results := [.lit (.bool false)], args := [d1, d2, d3] }
  | _ => none }
def FnExactCivilDegreeWrongFalsely : Prop := fnExactCivilDegreeRow.holds Try.pinned (OpenSpec.ofChange fnExactCivilDegreeWrong)

/-- 'laws.FnExactCanonDegree': WHATEVER THE INPUT: true; the input reads as it did. -/
def fnExactCanonDegreeSpec : ChangeSpec := { name := "fnExactCanonDegree", fn := fun _ => fun
  | [d1, d2, d3] => { results := [.lit (.bool true)], args := [d1, d2, d3] }
  | _ => none }
def fnExactCanonDegreeRow : OpenClaim := { program := "ytplkockghigpdaa", sum := "5009e3ecebc0741cca451f56d0437a8270e070079b045a0a1608cfbf2d82a8a0", func := "loop.example/g03221/laws.FnExactCanonDegree", spec := "fnExactCanonDegree", unfollowed := true, recurses := true, plainKeys := false, apart := false }
def FnExactCanonDegreeSaid : Prop := fnExactCanonDegreeRow.holds Try.pinned (OpenSpec.ofChange fnExactCanonDegreeSpec)

/-- ITS FALSE NEIGHBOUR: 'it returns false'. Refute it at one input. -/
def fnExactCanonDegreeWrong : ChangeSpec := { name := "fnExactCanonDegree", fn := fun _ => fun
  | [d1, d2, d3] => { results := [.lit (.bool false)], args := [d1, d2, d3] }
  | _ => none }
def FnExactCanonDegreeWrongFalsely : Prop := fnExactCanonDegreeRow.holds Try.pinned (OpenSpec.ofChange fnExactCanonDegreeWrong)

/-- 'laws.FnExactDescentLines': WHATEVER THE INPUT: true; the input reads as it did. -/
def fnExactDescentLinesSpec : ChangeSpec := { name := "fnExactDescentLines", fn := fun _ => fun
  | [d1, d2, d3] => { results := [.lit (.bool true)], args := [d1, d2, d3] }
  | _ => none }
def fnExactDescentLinesRow : OpenClaim := { program := "ytplkockghigpdaa", sum := "5009e3ecebc0741cca451f56d0437a8270e070079b045a0a1608cfbf2d82a8a0", func := "loop.example/g03221/laws.FnExactDescentLines", spec := "fnExactDescentLines", unfollowed := true, recurses := true, plainKeys := false, apart := false }
def FnExactDescentLinesSaid : Prop := fnExactDescentLinesRow.holds Try.pinned (OpenSpec.ofChange fnExactDescentLinesSpec)

/-- ITS FALSE NEIGHBOUR: 'it returns false'. Refute it at one input. -/
def fnExactDescentLinesWrong : ChangeSpec := { name := "fnExactDescentLines", fn := fun _ => fun
  | [d1, d2, d3] => { results := [.lit (.bool false)], args := [d1, d2, d3] }
  | _ => none }
def FnExactDescentLinesWrongFalsely : Prop := fnExactDescentLinesRow.holds Try.pinned (OpenSpec.ofChange fnExactDescentLinesWrong)

/-- 'laws.FnSiblings': WHATEVER THE INPUT: true; the input reads as it did. -/
def fnSiblingsSpec : ChangeSpec := { name := "fnSiblings", fn := fun _ => fun
  | [d] => { results := [.lit (.bool true)], args := [d] }
  | _ => none }
def fnSiblingsRow : OpenClaim := { program := "ytplkockghigpdaa", sum := "5009e3ecebc0741cca451f56d0437a8270e070079b045a0a1608cfbf2d82a8a0", func := "loop.example/g03221/laws.FnSiblings", spec := "fnSiblings", unfollowed := true, recurses := true, plainKeys := false, apart := false }
def FnSiblingsSaid : Prop := fnSiblingsRow.holds Try.pinned (OpenSpec.ofChange fnSiblingsSpec)

/-- ITS FALSE NEIGHBOUR: 'it returns false'. Refute it at one input. -/
def fnSiblingsWrong : ChangeSpec := { name := "fnSiblings", fn := fun _ => fun
  | [d] => { results := [.lit (.bool false)], args := [d] }
  | _ => none }
def FnSiblingsWrongFalsely : Prop := fnSiblingsRow.holds Try.pinned (OpenSpec.ofChange fnSiblingsWrong)

/-- 'laws.FnLines': WHATEVER THE INPUT: true; the input reads as it did. -/
def fnLinesSpec : ChangeSpec := { name := "fnLines", fn := fun _ => fun
  | [d] => { results := [.lit (.bool true)], args := [d] }
  | _ => none }
def fnLinesRow : OpenClaim := { program := "ytplkockghigpdaa", sum := "5009e3ecebc0741cca451f56d0437a8270e070079b045a0a1608cfbf2d82a8a0", func := "loop.example/g03221/laws.FnLines", spec := "fnLines", unfollowed := true, recurses := true, plainKeys := false, apart := false }
def FnLinesSaid : Prop := fnLinesRow.holds Try.pinned (OpenSpec.ofChange fnLinesSpec)

/-- ITS FALSE NEIGHBOUR: 'it returns false'. Refute it at one input. -/
def fnLinesWrong : ChangeSpec := { name := "fnLines", fn := fun _ => fun
  | [d] => { results := [.lit (.bool false)], args := [d] }
  | _ => none }
def FnLinesWrongFalsely : Prop := fnLinesRow.holds Try.pinned (OpenSpec.ofChange fnLinesWrong)

/-- 'laws.FnDegrees': WHATEVER THE INPUT: true; the input reads as it did. -/
def fnDegreesSpec : ChangeSpec := { name := "fnDegrees", fn := fun _ => fun
  | [d] => { results := [.lit (.bool true)], args := [d] }
  | _ => none }
def fnDegreesRow : OpenClaim := { program := "ytplkockghigpdaa", sum := "5009e3ecebc0741cca451f56d0437a8270e070079b045a0a1608cfbf2d82a8a0", func := "loop.example/g03221/laws.FnDegrees", spec := "fnDegrees", unfollowed := true, recurses := true, plainKeys := false, apart := false }
def FnDegreesSaid : Prop := fnDegreesRow.holds Try.pinned (OpenSpec.ofChange fnDegreesSpec)

/-- ITS FALSE NEIGHBOUR: 'it returns false'. Refute it at one input. -/
def fnDegreesWrong : ChangeSpec := { name := "fnDegrees", fn := fun _ => fun
  | [d] => { results := [.lit (.bool false)], args := [d] }
  | _ => none }
def FnDegreesWrongFalsely : Prop := fnDegreesRow.holds Try.pinned (OpenSpec.ofChange fnDegreesWrong)

/-- 'laws.FnDescents': WHATEVER THE INPUT: true; the input reads as it did. -/
def fnDescentsSpec : ChangeSpec := { name := "fnDescents", fn := fun _ => fun
  | [d] => { results := [.lit (.bool true)], args := [d] }
  | _ => none }
def fnDescentsRow : OpenClaim := { program := "ytplkockghigpdaa", sum := "5009e3ecebc0741cca451f56d0437a8270e070079b045a0a1608cfbf2d82a8a0", func := "loop.example/g03221/laws.FnDescents", spec := "fnDescents", unfollowed := true, recurses := true, plainKeys := false, apart := false }
def FnDescentsSaid : Prop := fnDescentsRow.holds Try.pinned (OpenSpec.ofChange fnDescentsSpec)

/-- ITS FALSE NEIGHBOUR: 'it returns false'. Refute it at one input. -/
def fnDescentsWrong : ChangeSpec := { name := "fnDescents", fn := fun _ => fun
  | [d] => { results := [.lit (.bool false)], args := [d] }
  | _ => none }
def FnDescentsWrongFalsely : Prop := fnDescentsRow.holds Try.pinned (OpenSpec.ofChange fnDescentsWrong)

/-- 'laws.FnExactSameClasses': WHATEVER THE INPUT: true; the input reads as it did. -/
def fnExactSameClassesSpec : ChangeSpec := { name := "fnExactSameClasses", fn := fun _ => fun
  | [d1, d2] => { results := [.lit (.bool true)], args := [d1, d2] }
  | _ => none }
def fnExactSameClassesRow : OpenClaim := { program := "ytplkockghigpdaa", sum := "5009e3ecebc0741cca451f56d0437a8270e070079b045a0a1608cfbf2d82a8a0", func := "loop.example/g03221/laws.FnExactSameClasses", spec := "fnExactSameClasses", unfollowed := true, recurses := true, plainKeys := false, apart := false }
def FnExactSameClassesSaid : Prop := fnExactSameClassesRow.holds Try.pinned (OpenSpec.ofChange fnExactSameClassesSpec)

/-- ITS FALSE NEIGHBOUR: 'it returns false'. Refute it at one input. -/
def fnExactSameClassesWrong : ChangeSpec := { name := "fnExactSameClasses", fn := fun _ => fun
  | [d1, d2] => { results := [.lit (.bool false)], args := [d1, d2] }
  | _ => none }
def FnExactSameClassesWrongFalsely : Prop := fnExactSameClassesRow.holds Try.pinned (OpenSpec.ofChange fnExactSameClassesWrong)

/-- 'laws.FnExactCanonicalClasses': WHATEVER THE INPUT: true; the input reads as it did. -/
def fnExactCanonicalClassesSpec : ChangeSpec := { name := "fnExactCanonicalClasses", fn := fun _ => fun
  | [d] => { results := [.lit (.bool true)], args := [d] }
  | _ => none }
def fnExactCanonicalClassesRow : OpenClaim := { program := "ytplkockghigpdaa", sum := "5009e3ecebc0741cca451f56d0437a8270e070079b045a0a1608cfbf2d82a8a0", func := "loop.example/g03221/laws.FnExactCanonicalClasses", spec := "fnExactCanonicalClasses", unfollowed := true, recurses := true, plainKeys := false, apart := false }
def FnExactCanonicalClassesSaid : Prop := fnExactCanonicalClassesRow.holds Try.pinned (OpenSpec.ofChange fnExactCanonicalClassesSpec)

/-- ITS FALSE NEIGHBOUR: 'it returns false'. Refute it at one input. -/
def fnExactCanonicalClassesWrong : ChangeSpec := { name := "fnExactCanonicalClasses", fn := fun _ => fun
  | [d] => { results := [.lit (.bool false)], args := [d] }
  | _ => none }
def FnExactCanonicalClassesWrongFalsely : Prop := fnExactCanonicalClassesRow.holds Try.pinned (OpenSpec.ofChange fnExactCanonicalClassesWrong)

/- THE SECOND FORM. 'bulk': how many values and letters a reading holds, each counted each time it is reached (what is shared counts as often as it is met; a slice's spare places count too). A statement '..UptoSaid' is the law's where the arguments, and the package variables that the reading takes, are together of bulk at most 1048576: NARROWER than '..Said'. Prove '..Said' where nothing that the law and all that it calls make is longer than what came in: it says more and counts as full. Else prove '..UptoSaid'. A law counts once. -/
mutual
def uptoBulk {H : Type} : DataW H → Nat
  | .lit (.string bytes) => bytes.length + 1
  | .lit _ => 1
  | .nil => 1
  | .ptr d => uptoBulk d + 1
  | .slice elems spare => uptoBulkAll elems + uptoBulkAll spare + 1
  | .agg parts => uptoBulkAll parts + 1
  | .iface _ d => uptoBulk d + 1
  | .map entries => uptoBulkEntries entries + 1
  | .held _ => 1
def uptoBulkAll {H : Type} : List (DataW H) → Nat
  | [] => 0
  | d :: r => uptoBulk d + uptoBulkAll r
def uptoBulkEntries {H : Type} : List (Lit × DataW H) → Nat
  | [] => 0
  | x :: r => uptoBulkEntry x + uptoBulkEntries r
def uptoBulkEntry {H : Type} : Lit × DataW H → Nat
  | (.string bytes, d) => bytes.length + uptoBulk d + 1
  | (_, d) => uptoBulk d + 1
 end
def uptoSmall : (H : Type) → List (DataW H) → Bool := fun _ ds => decide (uptoBulkAll ds ≤ 1048576)
def OpenSpec.upto (s : _root_.Go.ChangeSpec) : _root_.Go.OpenSpec := { _root_.Go.OpenSpec.ofChange s with cond := some uptoSmall }

/-- 'laws.FnExactChildrenOf', WHERE WHAT IT READS IS OF BULK AT MOST 1048576: true; the input reads as it did. -/
def fnExactChildrenOfUptoRow : OpenClaim := { program := "ytplkockghigpdaa", sum := "5009e3ecebc0741cca451f56d0437a8270e070079b045a0a1608cfbf2d82a8a0", func := "loop.example/g03221/laws.FnExactChildrenOf", spec := "fnExactChildrenOf", unfollowed := true, recurses := true, plainKeys := false, apart := false, narrowed := true }
def FnExactChildrenOfUptoSaid : Prop := fnExactChildrenOfUptoRow.holds Try.pinned (OpenSpec.upto fnExactChildrenOfSpec)

/-- 'laws.FnExactFullSiblings', WHERE WHAT IT READS IS OF BULK AT MOST 1048576: true; the input reads as it did. -/
def fnExactFullSiblingsUptoRow : OpenClaim := { program := "ytplkockghigpdaa", sum := "5009e3ecebc0741cca451f56d0437a8270e070079b045a0a1608cfbf2d82a8a0", func := "loop.example/g03221/laws.FnExactFullSiblings", spec := "fnExactFullSiblings", unfollowed := true, recurses := true, plainKeys := false, apart := false, narrowed := true }
def FnExactFullSiblingsUptoSaid : Prop := fnExactFullSiblingsUptoRow.holds Try.pinned (OpenSpec.upto fnExactFullSiblingsSpec)

/-- 'laws.FnExactHalfSiblings', WHERE WHAT IT READS IS OF BULK AT MOST 1048576: true; the input reads as it did. -/
def fnExactHalfSiblingsUptoRow : OpenClaim := { program := "ytplkockghigpdaa", sum := "5009e3ecebc0741cca451f56d0437a8270e070079b045a0a1608cfbf2d82a8a0", func := "loop.example/g03221/laws.FnExactHalfSiblings", spec := "fnExactHalfSiblings", unfollowed := true, recurses := true, plainKeys := false, apart := false, narrowed := true }
def FnExactHalfSiblingsUptoSaid : Prop := fnExactHalfSiblingsUptoRow.holds Try.pinned (OpenSpec.upto fnExactHalfSiblingsSpec)

/-- 'laws.FnExactAncestorsOf', WHERE WHAT IT READS IS OF BULK AT MOST 1048576: true; the input reads as it did. -/
def fnExactAncestorsOfUptoRow : OpenClaim := { program := "ytplkockghigpdaa", sum := "5009e3ecebc0741cca451f56d0437a8270e070079b045a0a1608cfbf2d82a8a0", func := "loop.example/g03221/laws.FnExactAncestorsOf", spec := "fnExactAncestorsOf", unfollowed := true, recurses := true, plainKeys := false, apart := false, narrowed := true }
def FnExactAncestorsOfUptoSaid : Prop := fnExactAncestorsOfUptoRow.holds Try.pinned (OpenSpec.upto fnExactAncestorsOfSpec)

/-- 'laws.FnExactDescendantsOf', WHERE WHAT IT READS IS OF BULK AT MOST 1048576: true; the input reads as it did. -/
def fnExactDescendantsOfUptoRow : OpenClaim := { program := "ytplkockghigpdaa", sum := "5009e3ecebc0741cca451f56d0437a8270e070079b045a0a1608cfbf2d82a8a0", func := "loop.example/g03221/laws.FnExactDescendantsOf", spec := "fnExactDescendantsOf", unfollowed := true, recurses := true, plainKeys := false, apart := false, narrowed := true }
def FnExactDescendantsOfUptoSaid : Prop := fnExactDescendantsOfUptoRow.holds Try.pinned (OpenSpec.upto fnExactDescendantsOfSpec)

/-- 'laws.FnExactStepsUp', WHERE WHAT IT READS IS OF BULK AT MOST 1048576: true; the input reads as it did. -/
def fnExactStepsUpUptoRow : OpenClaim := { program := "ytplkockghigpdaa", sum := "5009e3ecebc0741cca451f56d0437a8270e070079b045a0a1608cfbf2d82a8a0", func := "loop.example/g03221/laws.FnExactStepsUp", spec := "fnExactStepsUp", unfollowed := true, recurses := true, plainKeys := false, apart := false, narrowed := true }
def FnExactStepsUpUptoSaid : Prop := fnExactStepsUpUptoRow.holds Try.pinned (OpenSpec.upto fnExactStepsUpSpec)

/-- 'laws.FnExactCommonAncestors', WHERE WHAT IT READS IS OF BULK AT MOST 1048576: true; the input reads as it did. -/
def fnExactCommonAncestorsUptoRow : OpenClaim := { program := "ytplkockghigpdaa", sum := "5009e3ecebc0741cca451f56d0437a8270e070079b045a0a1608cfbf2d82a8a0", func := "loop.example/g03221/laws.FnExactCommonAncestors", spec := "fnExactCommonAncestors", unfollowed := true, recurses := true, plainKeys := false, apart := false, narrowed := true }
def FnExactCommonAncestorsUptoSaid : Prop := fnExactCommonAncestorsUptoRow.holds Try.pinned (OpenSpec.upto fnExactCommonAncestorsSpec)

/-- 'laws.FnExactNearestCommon', WHERE WHAT IT READS IS OF BULK AT MOST 1048576: true; the input reads as it did. -/
def fnExactNearestCommonUptoRow : OpenClaim := { program := "ytplkockghigpdaa", sum := "5009e3ecebc0741cca451f56d0437a8270e070079b045a0a1608cfbf2d82a8a0", func := "loop.example/g03221/laws.FnExactNearestCommon", spec := "fnExactNearestCommon", unfollowed := true, recurses := true, plainKeys := false, apart := false, narrowed := true }
def FnExactNearestCommonUptoSaid : Prop := fnExactNearestCommonUptoRow.holds Try.pinned (OpenSpec.upto fnExactNearestCommonSpec)

/-- 'laws.FnExactLinkOf', WHERE WHAT IT READS IS OF BULK AT MOST 1048576: true; the input reads as it did. -/
def fnExactLinkOfUptoRow : OpenClaim := { program := "ytplkockghigpdaa", sum := "5009e3ecebc0741cca451f56d0437a8270e070079b045a0a1608cfbf2d82a8a0", func := "loop.example/g03221/laws.FnExactLinkOf", spec := "fnExactLinkOf", unfollowed := true, recurses := true, plainKeys := false, apart := false, narrowed := true }
def FnExactLinkOfUptoSaid : Prop := fnExactLinkOfUptoRow.holds Try.pinned (OpenSpec.upto fnExactLinkOfSpec)

/-- 'laws.FnExactCivilDegree', WHERE WHAT IT READS IS OF BULK AT MOST 1048576: true; the input reads as it did. -/
def fnExactCivilDegreeUptoRow : OpenClaim := { program := "ytplkockghigpdaa", sum := "5009e3ecebc0741cca451f56d0437a8270e070079b045a0a1608cfbf2d82a8a0", func := "loop.example/g03221/laws.FnExactCivilDegree", spec := "fnExactCivilDegree", unfollowed := true, recurses := true, plainKeys := false, apart := false, narrowed := true }
def FnExactCivilDegreeUptoSaid : Prop := fnExactCivilDegreeUptoRow.holds Try.pinned (OpenSpec.upto fnExactCivilDegreeSpec)

/-- 'laws.FnExactCanonDegree', WHERE WHAT IT READS IS OF BULK AT MOST 1048576: true; the input reads as it did. -/
def fnExactCanonDegreeUptoRow : OpenClaim := { program := "ytplkockghigpdaa", sum := "5009e3ecebc0741cca451f56d0437a8270e070079b045a0a1608cfbf2d82a8a0", func := "loop.example/g03221/laws.FnExactCanonDegree", spec := "fnExactCanonDegree", unfollowed := true, recurses := true, plainKeys := false, apart := false, narrowed := true }
def FnExactCanonDegreeUptoSaid : Prop := fnExactCanonDegreeUptoRow.holds Try.pinned (OpenSpec.upto fnExactCanonDegreeSpec)

/-- 'laws.FnExactDescentLines', WHERE WHAT IT READS IS OF BULK AT MOST 1048576: true; the input reads as it did. -/
def fnExactDescentLinesUptoRow : OpenClaim := { program := "ytplkockghigpdaa", sum := "5009e3ecebc0741cca451f56d0437a8270e070079b045a0a1608cfbf2d82a8a0", func := "loop.example/g03221/laws.FnExactDescentLines", spec := "fnExactDescentLines", unfollowed := true, recurses := true, plainKeys := false, apart := false, narrowed := true }
def FnExactDescentLinesUptoSaid : Prop := fnExactDescentLinesUptoRow.holds Try.pinned (OpenSpec.upto fnExactDescentLinesSpec)

/-- 'laws.FnSiblings', WHERE WHAT IT READS IS OF BULK AT MOST 1048576: true; the input reads as it did. -/
def fnSiblingsUptoRow : OpenClaim := { program := "ytplkockghigpdaa", sum := "5009e3ecebc0741cca451f56d0437a8270e070079b045a0a1608cfbf2d82a8a0", func := "loop.example/g03221/laws.FnSiblings", spec := "fnSiblings", unfollowed := true, recurses := true, plainKeys := false, apart := false, narrowed := true }
def FnSiblingsUptoSaid : Prop := fnSiblingsUptoRow.holds Try.pinned (OpenSpec.upto fnSiblingsSpec)

/-- 'laws.FnLines', WHERE WHAT IT READS IS OF BULK AT MOST 1048576: true; the input reads as it did. -/
def fnLinesUptoRow : OpenClaim := { program := "ytplkockghigpdaa", sum := "5009e3ecebc0741cca451f56d0437a8270e070079b045a0a1608cfbf2d82a8a0", func := "loop.example/g03221/laws.FnLines", spec := "fnLines", unfollowed := true, recurses := true, plainKeys := false, apart := false, narrowed := true }
def FnLinesUptoSaid : Prop := fnLinesUptoRow.holds Try.pinned (OpenSpec.upto fnLinesSpec)

/-- 'laws.FnDegrees', WHERE WHAT IT READS IS OF BULK AT MOST 1048576: true; the input reads as it did. -/
def fnDegreesUptoRow : OpenClaim := { program := "ytplkockghigpdaa", sum := "5009e3ecebc0741cca451f56d0437a8270e070079b045a0a1608cfbf2d82a8a0", func := "loop.example/g03221/laws.FnDegrees", spec := "fnDegrees", unfollowed := true, recurses := true, plainKeys := false, apart := false, narrowed := true }
def FnDegreesUptoSaid : Prop := fnDegreesUptoRow.holds Try.pinned (OpenSpec.upto fnDegreesSpec)

/-- 'laws.FnDescents', WHERE WHAT IT READS IS OF BULK AT MOST 1048576: true; the input reads as it did. -/
def fnDescentsUptoRow : OpenClaim := { program := "ytplkockghigpdaa", sum := "5009e3ecebc0741cca451f56d0437a8270e070079b045a0a1608cfbf2d82a8a0", func := "loop.example/g03221/laws.FnDescents", spec := "fnDescents", unfollowed := true, recurses := true, plainKeys := false, apart := false, narrowed := true }
def FnDescentsUptoSaid : Prop := fnDescentsUptoRow.holds Try.pinned (OpenSpec.upto fnDescentsSpec)

/-- 'laws.FnExactSameClasses', WHERE WHAT IT READS IS OF BULK AT MOST 1048576: true; the input reads as it did. -/
def fnExactSameClassesUptoRow : OpenClaim := { program := "ytplkockghigpdaa", sum := "5009e3ecebc0741cca451f56d0437a8270e070079b045a0a1608cfbf2d82a8a0", func := "loop.example/g03221/laws.FnExactSameClasses", spec := "fnExactSameClasses", unfollowed := true, recurses := true, plainKeys := false, apart := false, narrowed := true }
def FnExactSameClassesUptoSaid : Prop := fnExactSameClassesUptoRow.holds Try.pinned (OpenSpec.upto fnExactSameClassesSpec)

/-- 'laws.FnExactCanonicalClasses', WHERE WHAT IT READS IS OF BULK AT MOST 1048576: true; the input reads as it did. -/
def fnExactCanonicalClassesUptoRow : OpenClaim := { program := "ytplkockghigpdaa", sum := "5009e3ecebc0741cca451f56d0437a8270e070079b045a0a1608cfbf2d82a8a0", func := "loop.example/g03221/laws.FnExactCanonicalClasses", spec := "fnExactCanonicalClasses", unfollowed := true, recurses := true, plainKeys := false, apart := false, narrowed := true }
def FnExactCanonicalClassesUptoSaid : Prop := fnExactCanonicalClassesUptoRow.holds Try.pinned (OpenSpec.upto fnExactCanonicalClassesSpec)

end Rows
end Go.Proofs.Ytplkockghigpdaa
