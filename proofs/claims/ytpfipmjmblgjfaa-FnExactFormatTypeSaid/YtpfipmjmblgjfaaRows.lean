/-
  No cell of these rows narrows 'for every input' (looked for: loops, veiled, ifaces, maps, wideKeys, modest, calm, conditions, laid).
  DERIVED. THE GIVEN ROWS OF THIS SEAT. 21 by the template 'for every input the law returns true; each argument reads behind the call as it read before'; 0 by the template 'total and deterministic' (their statements: YtpfipmjmblgjfaaTotals.lean).
  GIVEN WITH THE SEED: the statements are not yours to turn. If you find one false, say at which input.
  Laid BY PROGRAM, IN A SANDBOX (cutbox-rows.mjs): the forced cells as the released guide's own fill.sh prints them over the translation afe7c9ec4840cc7e… (all of the seat's roots in one cut). By AI agents, Wed Nov 11 2026. No macro, syntax, notation, axiom, sorry.
-/
import Derived.Test.YtpfipmjmblgjfaaChecked
import GoSem.Claim
import GoSem.ClaimJoined
import GoSem.ClaimMapViews
import Derived.JoinedTies
import Derived.KernelRfl
namespace Go.Proofs.Ytpfipmjmblgjfaa
/- THE CELL 'sum', in the pinned program and in every row, IS THE sha256 OF THE DUMP (.gsa) THAT YtpfipmjmblgjfaaProg.lean LOADS. Nothing in Lean hashes anything: it is a label: what it is worth is what the hold of that sum in a sandbox is worth. -/
noncomputable def Try.pinned : Pinned := { name := "ytpfipmjmblgjfaa", sum := "afe7c9ec4840cc7ef3eeeee81eba03ca1f0f3164eef1abc04700cb20a372f9c0", checked := Try.checked }
namespace Rows
def none {H : Type} : Left H := { results := [], args := [] }

/-- 'laws.FnExactIsPermutation': WHATEVER THE INPUT: true; the input reads as it did. -/
def fnExactIsPermutationSpec : ChangeSpec := { name := "fnExactIsPermutation", fn := fun _ => fun
  | [d] => { results := [.lit (.bool true)], args := [d] }
  | _ => none }
def fnExactIsPermutationRow : OpenClaim := { program := "ytpfipmjmblgjfaa", sum := "afe7c9ec4840cc7ef3eeeee81eba03ca1f0f3164eef1abc04700cb20a372f9c0", func := "loop.example/g03221/laws.FnExactIsPermutation", spec := "fnExactIsPermutation", apart := false }
def FnExactIsPermutationSaid : Prop := fnExactIsPermutationRow.holds Try.pinned (OpenSpec.ofChange fnExactIsPermutationSpec)

/-- ITS FALSE NEIGHBOUR: 'it returns false'. Refute it at one input. -/
def fnExactIsPermutationWrong : ChangeSpec := { name := "fnExactIsPermutation", fn := fun _ => fun
  | [d] => { results := [.lit (.bool false)], args := [d] }
  | _ => none }
def FnExactIsPermutationWrongFalsely : Prop := fnExactIsPermutationRow.holds Try.pinned (OpenSpec.ofChange fnExactIsPermutationWrong)

/-- 'laws.FnExactInversePermutation': WHATEVER THE INPUT: true; the input reads as it did. -/
def fnExactInversePermutationSpec : ChangeSpec := { name := "fnExactInversePermutation", fn := fun _ => fun
  | [d] => { results := [.lit (.bool true)], args := [d] }
  | _ => none }
def fnExactInversePermutationRow : OpenClaim := { program := "ytpfipmjmblgjfaa", sum := "afe7c9ec4840cc7ef3eeeee81eba03ca1f0f3164eef1abc04700cb20a372f9c0", func := "loop.example/g03221/laws.FnExactInversePermutation", spec := "fnExactInversePermutation", apart := false }
def FnExactInversePermutationSaid : Prop := fnExactInversePermutationRow.holds Try.pinned (OpenSpec.ofChange fnExactInversePermutationSpec)

/-- ITS FALSE NEIGHBOUR: 'it returns false'. Refute it at one input. -/
def fnExactInversePermutationWrong : ChangeSpec := { name := "fnExactInversePermutation", fn := fun _ => fun
  | [d] => { results := [.lit (.bool false)], args := [d] }
  | _ => none }
def FnExactInversePermutationWrongFalsely : Prop := fnExactInversePermutationRow.holds Try.pinned (OpenSpec.ofChange fnExactInversePermutationWrong)

/-- 'laws.FnExactComposePermutations': WHATEVER THE INPUT: true; the input reads as it did. -/
def fnExactComposePermutationsSpec : ChangeSpec := { name := "fnExactComposePermutations", fn := fun _ => fun
  | [d1, d2] => { results := [.lit (.bool true)], args := [d1, d2] }
  | _ => none }
def fnExactComposePermutationsRow : OpenClaim := { program := "ytpfipmjmblgjfaa", sum := "afe7c9ec4840cc7ef3eeeee81eba03ca1f0f3164eef1abc04700cb20a372f9c0", func := "loop.example/g03221/laws.FnExactComposePermutations", spec := "fnExactComposePermutations", unfollowed := true, recurses := true, apart := false }
def FnExactComposePermutationsSaid : Prop := fnExactComposePermutationsRow.holds Try.pinned (OpenSpec.ofChange fnExactComposePermutationsSpec)

/-- ITS FALSE NEIGHBOUR: 'it returns false'. Refute it at one input. -/
def fnExactComposePermutationsWrong : ChangeSpec := { name := "fnExactComposePermutations", fn := fun _ => fun
  | [d1, d2] => { results := [.lit (.bool false)], args := [d1, d2] }
  | _ => none }
def FnExactComposePermutationsWrongFalsely : Prop := fnExactComposePermutationsRow.holds Try.pinned (OpenSpec.ofChange fnExactComposePermutationsWrong)

/-- 'laws.FnExactIsClasses': WHATEVER THE INPUT: true; the input reads as it did. -/
def fnExactIsClassesSpec : ChangeSpec := { name := "fnExactIsClasses", fn := fun _ => fun
  | [d] => { results := [.lit (.bool true)], args := [d] }
  | _ => none }
def fnExactIsClassesRow : OpenClaim := { program := "ytpfipmjmblgjfaa", sum := "afe7c9ec4840cc7ef3eeeee81eba03ca1f0f3164eef1abc04700cb20a372f9c0", func := "loop.example/g03221/laws.FnExactIsClasses", spec := "fnExactIsClasses", apart := false }
def FnExactIsClassesSaid : Prop := fnExactIsClassesRow.holds Try.pinned (OpenSpec.ofChange fnExactIsClassesSpec)

/-- ITS FALSE NEIGHBOUR: 'it returns false'. Refute it at one input. -/
def fnExactIsClassesWrong : ChangeSpec := { name := "fnExactIsClasses", fn := fun _ => fun
  | [d] => { results := [.lit (.bool false)], args := [d] }
  | _ => none }
def FnExactIsClassesWrongFalsely : Prop := fnExactIsClassesRow.holds Try.pinned (OpenSpec.ofChange fnExactIsClassesWrong)

/-- 'laws.FnExactForbidsSiblings': WHATEVER THE INPUT: true; the input reads as it did. -/
def fnExactForbidsSiblingsSpec : ChangeSpec := { name := "fnExactForbidsSiblings", fn := fun _ => fun
  | [d] => { results := [.lit (.bool true)], args := [d] }
  | _ => none }
def fnExactForbidsSiblingsRow : OpenClaim := { program := "ytpfipmjmblgjfaa", sum := "afe7c9ec4840cc7ef3eeeee81eba03ca1f0f3164eef1abc04700cb20a372f9c0", func := "loop.example/g03221/laws.FnExactForbidsSiblings", spec := "fnExactForbidsSiblings", apart := false }
def FnExactForbidsSiblingsSaid : Prop := fnExactForbidsSiblingsRow.holds Try.pinned (OpenSpec.ofChange fnExactForbidsSiblingsSpec)

/-- ITS FALSE NEIGHBOUR: 'it returns false'. Refute it at one input. -/
def fnExactForbidsSiblingsWrong : ChangeSpec := { name := "fnExactForbidsSiblings", fn := fun _ => fun
  | [d] => { results := [.lit (.bool false)], args := [d] }
  | _ => none }
def FnExactForbidsSiblingsWrongFalsely : Prop := fnExactForbidsSiblingsRow.holds Try.pinned (OpenSpec.ofChange fnExactForbidsSiblingsWrong)

/-- 'laws.FnExactRelabelClasses': WHATEVER THE INPUT: true; the input reads as it did. -/
def fnExactRelabelClassesSpec : ChangeSpec := { name := "fnExactRelabelClasses", fn := fun _ => fun
  | [d1, d2] => { results := [.lit (.bool true)], args := [d1, d2] }
  | _ => none }
def fnExactRelabelClassesRow : OpenClaim := { program := "ytpfipmjmblgjfaa", sum := "afe7c9ec4840cc7ef3eeeee81eba03ca1f0f3164eef1abc04700cb20a372f9c0", func := "loop.example/g03221/laws.FnExactRelabelClasses", spec := "fnExactRelabelClasses", unfollowed := true, recurses := true, apart := false }
def FnExactRelabelClassesSaid : Prop := fnExactRelabelClassesRow.holds Try.pinned (OpenSpec.ofChange fnExactRelabelClassesSpec)

/-- ITS FALSE NEIGHBOUR: 'it returns false'. Refute it at one input. -/
def fnExactRelabelClassesWrong : ChangeSpec := { name := "fnExactRelabelClasses", fn := fun _ => fun
  | [d1, d2] => { results := [.lit (.bool false)], args := [d1, d2] }
  | _ => none }
def FnExactRelabelClassesWrongFalsely : Prop := fnExactRelabelClassesRow.holds Try.pinned (OpenSpec.ofChange fnExactRelabelClassesWrong)

/-- 'laws.FnExactProductClasses': WHATEVER THE INPUT: true; the input reads as it did. -/
def fnExactProductClassesSpec : ChangeSpec := { name := "fnExactProductClasses", fn := fun _ => fun
  | [d1, d2] => { results := [.lit (.bool true)], args := [d1, d2] }
  | _ => none }
def fnExactProductClassesRow : OpenClaim := { program := "ytpfipmjmblgjfaa", sum := "afe7c9ec4840cc7ef3eeeee81eba03ca1f0f3164eef1abc04700cb20a372f9c0", func := "loop.example/g03221/laws.FnExactProductClasses", spec := "fnExactProductClasses", apart := false }
def FnExactProductClassesSaid : Prop := fnExactProductClassesRow.holds Try.pinned (OpenSpec.ofChange fnExactProductClassesSpec)

/-- ITS FALSE NEIGHBOUR: 'it returns false'. Refute it at one input. -/
def fnExactProductClassesWrong : ChangeSpec := { name := "fnExactProductClasses", fn := fun _ => fun
  | [d1, d2] => { results := [.lit (.bool false)], args := [d1, d2] }
  | _ => none }
def FnExactProductClassesWrongFalsely : Prop := fnExactProductClassesRow.holds Try.pinned (OpenSpec.ofChange fnExactProductClassesWrong)

/-- 'laws.FnExactSampleClasses': WHATEVER THE INPUT: true; the input reads as it did. -/
def fnExactSampleClassesSpec : ChangeSpec := { name := "fnExactSampleClasses", fn := fun _ => fun
  | [d] => { results := [.lit (.bool true)], args := [d] }
  | _ => none }
def fnExactSampleClassesRow : OpenClaim := { program := "ytpfipmjmblgjfaa", sum := "afe7c9ec4840cc7ef3eeeee81eba03ca1f0f3164eef1abc04700cb20a372f9c0", func := "loop.example/g03221/laws.FnExactSampleClasses", spec := "fnExactSampleClasses", apart := false }
def FnExactSampleClassesSaid : Prop := fnExactSampleClassesRow.holds Try.pinned (OpenSpec.ofChange fnExactSampleClassesSpec)

/-- ITS FALSE NEIGHBOUR: 'it returns false'. Refute it at one input. -/
def fnExactSampleClassesWrong : ChangeSpec := { name := "fnExactSampleClasses", fn := fun _ => fun
  | [d] => { results := [.lit (.bool false)], args := [d] }
  | _ => none }
def FnExactSampleClassesWrongFalsely : Prop := fnExactSampleClassesRow.holds Try.pinned (OpenSpec.ofChange fnExactSampleClassesWrong)

/-- 'laws.FnExactTypePermutation': WHATEVER THE INPUT: true; the input reads as it did. -/
def fnExactTypePermutationSpec : ChangeSpec := { name := "fnExactTypePermutation", fn := fun _ => fun
  | [d1, d2] => { results := [.lit (.bool true)], args := [d1, d2] }
  | _ => none }
def fnExactTypePermutationRow : OpenClaim := { program := "ytpfipmjmblgjfaa", sum := "afe7c9ec4840cc7ef3eeeee81eba03ca1f0f3164eef1abc04700cb20a372f9c0", func := "loop.example/g03221/laws.FnExactTypePermutation", spec := "fnExactTypePermutation", unfollowed := true, recurses := true, apart := false }
def FnExactTypePermutationSaid : Prop := fnExactTypePermutationRow.holds Try.pinned (OpenSpec.ofChange fnExactTypePermutationSpec)

/-- ITS FALSE NEIGHBOUR: 'it returns false'. Refute it at one input. -/
def fnExactTypePermutationWrong : ChangeSpec := { name := "fnExactTypePermutation", fn := fun _ => fun
  | [d1, d2] => { results := [.lit (.bool false)], args := [d1, d2] }
  | _ => none }
def FnExactTypePermutationWrongFalsely : Prop := fnExactTypePermutationRow.holds Try.pinned (OpenSpec.ofChange fnExactTypePermutationWrong)

/-- 'laws.FnExactAllowsType': WHATEVER THE INPUT: true; the input reads as it did. -/
def fnExactAllowsTypeSpec : ChangeSpec := { name := "fnExactAllowsType", fn := fun _ => fun
  | [d1, d2] => { results := [.lit (.bool true)], args := [d1, d2] }
  | _ => none }
def fnExactAllowsTypeRow : OpenClaim := { program := "ytpfipmjmblgjfaa", sum := "afe7c9ec4840cc7ef3eeeee81eba03ca1f0f3164eef1abc04700cb20a372f9c0", func := "loop.example/g03221/laws.FnExactAllowsType", spec := "fnExactAllowsType", unfollowed := true, recurses := true, apart := false }
def FnExactAllowsTypeSaid : Prop := fnExactAllowsTypeRow.holds Try.pinned (OpenSpec.ofChange fnExactAllowsTypeSpec)

/-- ITS FALSE NEIGHBOUR: 'it returns false'. Refute it at one input. -/
def fnExactAllowsTypeWrong : ChangeSpec := { name := "fnExactAllowsType", fn := fun _ => fun
  | [d1, d2] => { results := [.lit (.bool false)], args := [d1, d2] }
  | _ => none }
def FnExactAllowsTypeWrongFalsely : Prop := fnExactAllowsTypeRow.holds Try.pinned (OpenSpec.ofChange fnExactAllowsTypeWrong)

/-- 'laws.FnExactCanonicalClasses': WHATEVER THE INPUT: true; the input reads as it did. -/
def fnExactCanonicalClassesSpec : ChangeSpec := { name := "fnExactCanonicalClasses", fn := fun _ => fun
  | [d] => { results := [.lit (.bool true)], args := [d] }
  | _ => none }
def fnExactCanonicalClassesRow : OpenClaim := { program := "ytpfipmjmblgjfaa", sum := "afe7c9ec4840cc7ef3eeeee81eba03ca1f0f3164eef1abc04700cb20a372f9c0", func := "loop.example/g03221/laws.FnExactCanonicalClasses", spec := "fnExactCanonicalClasses", unfollowed := true, recurses := true, apart := false }
def FnExactCanonicalClassesSaid : Prop := fnExactCanonicalClassesRow.holds Try.pinned (OpenSpec.ofChange fnExactCanonicalClassesSpec)

/-- ITS FALSE NEIGHBOUR: 'it returns false'. Refute it at one input. -/
def fnExactCanonicalClassesWrong : ChangeSpec := { name := "fnExactCanonicalClasses", fn := fun _ => fun
  | [d] => { results := [.lit (.bool false)], args := [d] }
  | _ => none }
def FnExactCanonicalClassesWrongFalsely : Prop := fnExactCanonicalClassesRow.holds Try.pinned (OpenSpec.ofChange fnExactCanonicalClassesWrong)

/-- 'laws.FnExactSameClasses': WHATEVER THE INPUT: true; the input reads as it did. -/
def fnExactSameClassesSpec : ChangeSpec := { name := "fnExactSameClasses", fn := fun _ => fun
  | [d1, d2] => { results := [.lit (.bool true)], args := [d1, d2] }
  | _ => none }
def fnExactSameClassesRow : OpenClaim := { program := "ytpfipmjmblgjfaa", sum := "afe7c9ec4840cc7ef3eeeee81eba03ca1f0f3164eef1abc04700cb20a372f9c0", func := "loop.example/g03221/laws.FnExactSameClasses", spec := "fnExactSameClasses", unfollowed := true, recurses := true, apart := false }
def FnExactSameClassesSaid : Prop := fnExactSameClassesRow.holds Try.pinned (OpenSpec.ofChange fnExactSameClassesSpec)

/-- ITS FALSE NEIGHBOUR: 'it returns false'. Refute it at one input. -/
def fnExactSameClassesWrong : ChangeSpec := { name := "fnExactSameClasses", fn := fun _ => fun
  | [d1, d2] => { results := [.lit (.bool false)], args := [d1, d2] }
  | _ => none }
def FnExactSameClassesWrongFalsely : Prop := fnExactSameClassesRow.holds Try.pinned (OpenSpec.ofChange fnExactSameClassesWrong)

/-- 'laws.FnExactReductsOf': WHATEVER THE INPUT: true; the input reads as it did. -/
def fnExactReductsOfSpec : ChangeSpec := { name := "fnExactReductsOf", fn := fun _ => fun
  | [d1, d2] => { results := [.lit (.bool true)], args := [d1, d2] }
  | _ => none }
def fnExactReductsOfRow : OpenClaim := { program := "ytpfipmjmblgjfaa", sum := "afe7c9ec4840cc7ef3eeeee81eba03ca1f0f3164eef1abc04700cb20a372f9c0", func := "loop.example/g03221/laws.FnExactReductsOf", spec := "fnExactReductsOf", unfollowed := true, recurses := true, apart := false }
def FnExactReductsOfSaid : Prop := fnExactReductsOfRow.holds Try.pinned (OpenSpec.ofChange fnExactReductsOfSpec)

/-- ITS FALSE NEIGHBOUR: 'it returns false'. Refute it at one input. -/
def fnExactReductsOfWrong : ChangeSpec := { name := "fnExactReductsOf", fn := fun _ => fun
  | [d1, d2] => { results := [.lit (.bool false)], args := [d1, d2] }
  | _ => none }
def FnExactReductsOfWrongFalsely : Prop := fnExactReductsOfRow.holds Try.pinned (OpenSpec.ofChange fnExactReductsOfWrong)

/-- 'laws.FnExactNormalForm': WHATEVER THE INPUT: true; the input reads as it did. -/
def fnExactNormalFormSpec : ChangeSpec := { name := "fnExactNormalForm", fn := fun _ => fun
  | [d1, d2] => { results := [.lit (.bool true)], args := [d1, d2] }
  | _ => none }
def fnExactNormalFormRow : OpenClaim := { program := "ytpfipmjmblgjfaa", sum := "afe7c9ec4840cc7ef3eeeee81eba03ca1f0f3164eef1abc04700cb20a372f9c0", func := "loop.example/g03221/laws.FnExactNormalForm", spec := "fnExactNormalForm", unfollowed := true, recurses := true, apart := false }
def FnExactNormalFormSaid : Prop := fnExactNormalFormRow.holds Try.pinned (OpenSpec.ofChange fnExactNormalFormSpec)

/-- ITS FALSE NEIGHBOUR: 'it returns false'. Refute it at one input. -/
def fnExactNormalFormWrong : ChangeSpec := { name := "fnExactNormalForm", fn := fun _ => fun
  | [d1, d2] => { results := [.lit (.bool false)], args := [d1, d2] }
  | _ => none }
def FnExactNormalFormWrongFalsely : Prop := fnExactNormalFormRow.holds Try.pinned (OpenSpec.ofChange fnExactNormalFormWrong)

/-- 'laws.FnExactFormatType': WHATEVER THE INPUT: true; the input reads as it did. -/
def fnExactFormatTypeSpec : ChangeSpec := { name := "fnExactFormatType", fn := fun _ => fun
  | [d] => { results := [.lit (.bool true)], args := [d] }
  | _ => none }
def fnExactFormatTypeRow : OpenClaim := { program := "ytpfipmjmblgjfaa", sum := "afe7c9ec4840cc7ef3eeeee81eba03ca1f0f3164eef1abc04700cb20a372f9c0", func := "loop.example/g03221/laws.FnExactFormatType", spec := "fnExactFormatType", inPlace := ["internal/abi.NoEscape"], apart := false }
def FnExactFormatTypeSaid : Prop := fnExactFormatTypeRow.holds Try.pinned (OpenSpec.ofChange fnExactFormatTypeSpec)

/-- ITS FALSE NEIGHBOUR: 'it returns false'. Refute it at one input. -/
def fnExactFormatTypeWrong : ChangeSpec := { name := "fnExactFormatType", fn := fun _ => fun
  | [d] => { results := [.lit (.bool false)], args := [d] }
  | _ => none }
def FnExactFormatTypeWrongFalsely : Prop := fnExactFormatTypeRow.holds Try.pinned (OpenSpec.ofChange fnExactFormatTypeWrong)

/-- 'laws.FnExactParseType': WHATEVER THE INPUT: true; the input reads as it did. -/
def fnExactParseTypeSpec : ChangeSpec := { name := "fnExactParseType", fn := fun _ => fun
  | [d] => { results := [.lit (.bool true)], args := [d] }
  | _ => none }
def fnExactParseTypeRow : OpenClaim := { program := "ytpfipmjmblgjfaa", sum := "afe7c9ec4840cc7ef3eeeee81eba03ca1f0f3164eef1abc04700cb20a372f9c0", func := "loop.example/g03221/laws.FnExactParseType", spec := "fnExactParseType", inPlace := ["internal/bytealg.IndexByteString", "internal/bytealg.IndexString", "internal/abi.NoEscape"], named := ["internal/bytealg.MaxLen"], apart := false }
def FnExactParseTypeSaid : Prop := fnExactParseTypeRow.holds Try.pinned (OpenSpec.ofChange fnExactParseTypeSpec)

/-- ITS FALSE NEIGHBOUR: 'it returns false'. Refute it at one input. -/
def fnExactParseTypeWrong : ChangeSpec := { name := "fnExactParseType", fn := fun _ => fun
  | [d] => { results := [.lit (.bool false)], args := [d] }
  | _ => none }
def FnExactParseTypeWrongFalsely : Prop := fnExactParseTypeRow.holds Try.pinned (OpenSpec.ofChange fnExactParseTypeWrong)

/-- 'laws.FnExactFormatRule': WHATEVER THE INPUT: true; the input reads as it did. -/
def fnExactFormatRuleSpec : ChangeSpec := { name := "fnExactFormatRule", fn := fun _ => fun
  | [d] => { results := [.lit (.bool true)], args := [d] }
  | _ => none }
def fnExactFormatRuleRow : OpenClaim := { program := "ytpfipmjmblgjfaa", sum := "afe7c9ec4840cc7ef3eeeee81eba03ca1f0f3164eef1abc04700cb20a372f9c0", func := "loop.example/g03221/laws.FnExactFormatRule", spec := "fnExactFormatRule", inPlace := ["internal/abi.NoEscape"], unfollowed := true, recurses := true, apart := false }
def FnExactFormatRuleSaid : Prop := fnExactFormatRuleRow.holds Try.pinned (OpenSpec.ofChange fnExactFormatRuleSpec)

/-- ITS FALSE NEIGHBOUR: 'it returns false'. Refute it at one input. -/
def fnExactFormatRuleWrong : ChangeSpec := { name := "fnExactFormatRule", fn := fun _ => fun
  | [d] => { results := [.lit (.bool false)], args := [d] }
  | _ => none }
def FnExactFormatRuleWrongFalsely : Prop := fnExactFormatRuleRow.holds Try.pinned (OpenSpec.ofChange fnExactFormatRuleWrong)

/-- 'laws.FnExactParseRule': WHATEVER THE INPUT: true; the input reads as it did. -/
def fnExactParseRuleSpec : ChangeSpec := { name := "fnExactParseRule", fn := fun _ => fun
  | [d] => { results := [.lit (.bool true)], args := [d] }
  | _ => none }
def fnExactParseRuleRow : OpenClaim := { program := "ytpfipmjmblgjfaa", sum := "afe7c9ec4840cc7ef3eeeee81eba03ca1f0f3164eef1abc04700cb20a372f9c0", func := "loop.example/g03221/laws.FnExactParseRule", spec := "fnExactParseRule", inPlace := ["internal/bytealg.IndexByteString", "internal/bytealg.IndexString", "internal/abi.NoEscape"], unfollowed := true, recurses := true, named := ["internal/bytealg.MaxLen"], apart := false }
def FnExactParseRuleSaid : Prop := fnExactParseRuleRow.holds Try.pinned (OpenSpec.ofChange fnExactParseRuleSpec)

/-- ITS FALSE NEIGHBOUR: 'it returns false'. Refute it at one input. -/
def fnExactParseRuleWrong : ChangeSpec := { name := "fnExactParseRule", fn := fun _ => fun
  | [d] => { results := [.lit (.bool false)], args := [d] }
  | _ => none }
def FnExactParseRuleWrongFalsely : Prop := fnExactParseRuleRow.holds Try.pinned (OpenSpec.ofChange fnExactParseRuleWrong)

/-- 'laws.FnExactTraceReduction': WHATEVER THE INPUT: true; the input reads as it did. -/
def fnExactTraceReductionSpec : ChangeSpec := { name := "fnExactTraceReduction", fn := fun _ => fun
  | [d1, d2] => { results := [.lit (.bool true)], args := [d1, d2] }
  | _ => none }
def fnExactTraceReductionRow : OpenClaim := { program := "ytpfipmjmblgjfaa", sum := "afe7c9ec4840cc7ef3eeeee81eba03ca1f0f3164eef1abc04700cb20a372f9c0", func := "loop.example/g03221/laws.FnExactTraceReduction", spec := "fnExactTraceReduction", inPlace := ["internal/abi.NoEscape"], unfollowed := true, recurses := true, apart := false }
def FnExactTraceReductionSaid : Prop := fnExactTraceReductionRow.holds Try.pinned (OpenSpec.ofChange fnExactTraceReductionSpec)

/-- ITS FALSE NEIGHBOUR: 'it returns false'. Refute it at one input. -/
def fnExactTraceReductionWrong : ChangeSpec := { name := "fnExactTraceReduction", fn := fun _ => fun
  | [d1, d2] => { results := [.lit (.bool false)], args := [d1, d2] }
  | _ => none }
def FnExactTraceReductionWrongFalsely : Prop := fnExactTraceReductionRow.holds Try.pinned (OpenSpec.ofChange fnExactTraceReductionWrong)

/-- 'laws.FnExactSampleRules': WHATEVER THE INPUT: true; the input reads as it did. -/
def fnExactSampleRulesSpec : ChangeSpec := { name := "fnExactSampleRules", fn := fun _ => fun
  | [d] => { results := [.lit (.bool true)], args := [d] }
  | _ => none }
def fnExactSampleRulesRow : OpenClaim := { program := "ytpfipmjmblgjfaa", sum := "afe7c9ec4840cc7ef3eeeee81eba03ca1f0f3164eef1abc04700cb20a372f9c0", func := "loop.example/g03221/laws.FnExactSampleRules", spec := "fnExactSampleRules", inPlace := ["internal/bytealg.IndexByteString", "internal/bytealg.IndexString", "internal/abi.NoEscape"], unfollowed := true, recurses := true, named := ["internal/bytealg.MaxLen"], apart := false }
def FnExactSampleRulesSaid : Prop := fnExactSampleRulesRow.holds Try.pinned (OpenSpec.ofChange fnExactSampleRulesSpec)

/-- ITS FALSE NEIGHBOUR: 'it returns false'. Refute it at one input. -/
def fnExactSampleRulesWrong : ChangeSpec := { name := "fnExactSampleRules", fn := fun _ => fun
  | [d] => { results := [.lit (.bool false)], args := [d] }
  | _ => none }
def FnExactSampleRulesWrongFalsely : Prop := fnExactSampleRulesRow.holds Try.pinned (OpenSpec.ofChange fnExactSampleRulesWrong)

/-- 'laws.FnPermutations': WHATEVER THE INPUT: true; the input reads as it did. -/
def fnPermutationsSpec : ChangeSpec := { name := "fnPermutations", fn := fun _ => fun
  | [d] => { results := [.lit (.bool true)], args := [d] }
  | _ => none }
def fnPermutationsRow : OpenClaim := { program := "ytpfipmjmblgjfaa", sum := "afe7c9ec4840cc7ef3eeeee81eba03ca1f0f3164eef1abc04700cb20a372f9c0", func := "loop.example/g03221/laws.FnPermutations", spec := "fnPermutations", unfollowed := true, recurses := true, apart := false }
def FnPermutationsSaid : Prop := fnPermutationsRow.holds Try.pinned (OpenSpec.ofChange fnPermutationsSpec)

/-- ITS FALSE NEIGHBOUR: 'it returns false'. Refute it at one input. -/
def fnPermutationsWrong : ChangeSpec := { name := "fnPermutations", fn := fun _ => fun
  | [d] => { results := [.lit (.bool false)], args := [d] }
  | _ => none }
def FnPermutationsWrongFalsely : Prop := fnPermutationsRow.holds Try.pinned (OpenSpec.ofChange fnPermutationsWrong)

/- THE SECOND FORM. 'bulk': how many values and letters a reading holds, each counted each time it is reached (what is shared counts as often as it is met; a slice's spare places count too). A statement '..UptoSaid' is the law's where the arguments, and the package variables that the reading takes, are together of bulk at most 1048576: NARROWER than '..Said'. Prove '..Said' where nothing that the law and all that it calls make is longer than what came in: it says more and counts as full. Else prove '..UptoSaid'. A law counts once. -/
mutual
def uptoBulk {H : Type} : DataW H → Nat
  | .lit (.string bytes) => bytes.length + 1
  | .lit _ => 1
  | .nil => 1
  | .ptr d => uptoBulk d + 1
  | .slice elems spare => uptoBulkAll elems + uptoBulkAll spare + 1
  | .agg parts => uptoBulkAll parts + 1
  | .iface _ d => uptoBulk d + 1
  | .map entries => uptoBulkEntries entries + 1
  | .held _ => 1
def uptoBulkAll {H : Type} : List (DataW H) → Nat
  | [] => 0
  | d :: r => uptoBulk d + uptoBulkAll r
def uptoBulkEntries {H : Type} : List (Lit × DataW H) → Nat
  | [] => 0
  | x :: r => uptoBulkEntry x + uptoBulkEntries r
def uptoBulkEntry {H : Type} : Lit × DataW H → Nat
  | (.string bytes, d) => bytes.length + uptoBulk d + 1
  | (_, d) => uptoBulk d + 1
 end
def uptoSmall : (H : Type) → List (DataW H) → Bool := fun _ ds => decide (uptoBulkAll ds ≤ 1048576)
def OpenSpec.upto (s : _root_.Go.ChangeSpec) : _root_.Go.OpenSpec := { _root_.Go.OpenSpec.ofChange s with cond := some uptoSmall }

/-- 'laws.FnExactIsPermutation', WHERE WHAT IT READS IS OF BULK AT MOST 1048576: true; the input reads as it did. -/
def fnExactIsPermutationUptoRow : OpenClaim := { program := "ytpfipmjmblgjfaa", sum := "afe7c9ec4840cc7ef3eeeee81eba03ca1f0f3164eef1abc04700cb20a372f9c0", func := "loop.example/g03221/laws.FnExactIsPermutation", spec := "fnExactIsPermutation", apart := false, narrowed := true }
def FnExactIsPermutationUptoSaid : Prop := fnExactIsPermutationUptoRow.holds Try.pinned (OpenSpec.upto fnExactIsPermutationSpec)

/-- 'laws.FnExactInversePermutation', WHERE WHAT IT READS IS OF BULK AT MOST 1048576: true; the input reads as it did. -/
def fnExactInversePermutationUptoRow : OpenClaim := { program := "ytpfipmjmblgjfaa", sum := "afe7c9ec4840cc7ef3eeeee81eba03ca1f0f3164eef1abc04700cb20a372f9c0", func := "loop.example/g03221/laws.FnExactInversePermutation", spec := "fnExactInversePermutation", apart := false, narrowed := true }
def FnExactInversePermutationUptoSaid : Prop := fnExactInversePermutationUptoRow.holds Try.pinned (OpenSpec.upto fnExactInversePermutationSpec)

/-- 'laws.FnExactComposePermutations', WHERE WHAT IT READS IS OF BULK AT MOST 1048576: true; the input reads as it did. -/
def fnExactComposePermutationsUptoRow : OpenClaim := { program := "ytpfipmjmblgjfaa", sum := "afe7c9ec4840cc7ef3eeeee81eba03ca1f0f3164eef1abc04700cb20a372f9c0", func := "loop.example/g03221/laws.FnExactComposePermutations", spec := "fnExactComposePermutations", unfollowed := true, recurses := true, apart := false, narrowed := true }
def FnExactComposePermutationsUptoSaid : Prop := fnExactComposePermutationsUptoRow.holds Try.pinned (OpenSpec.upto fnExactComposePermutationsSpec)

/-- 'laws.FnExactIsClasses', WHERE WHAT IT READS IS OF BULK AT MOST 1048576: true; the input reads as it did. -/
def fnExactIsClassesUptoRow : OpenClaim := { program := "ytpfipmjmblgjfaa", sum := "afe7c9ec4840cc7ef3eeeee81eba03ca1f0f3164eef1abc04700cb20a372f9c0", func := "loop.example/g03221/laws.FnExactIsClasses", spec := "fnExactIsClasses", apart := false, narrowed := true }
def FnExactIsClassesUptoSaid : Prop := fnExactIsClassesUptoRow.holds Try.pinned (OpenSpec.upto fnExactIsClassesSpec)

/-- 'laws.FnExactForbidsSiblings', WHERE WHAT IT READS IS OF BULK AT MOST 1048576: true; the input reads as it did. -/
def fnExactForbidsSiblingsUptoRow : OpenClaim := { program := "ytpfipmjmblgjfaa", sum := "afe7c9ec4840cc7ef3eeeee81eba03ca1f0f3164eef1abc04700cb20a372f9c0", func := "loop.example/g03221/laws.FnExactForbidsSiblings", spec := "fnExactForbidsSiblings", apart := false, narrowed := true }
def FnExactForbidsSiblingsUptoSaid : Prop := fnExactForbidsSiblingsUptoRow.holds Try.pinned (OpenSpec.upto fnExactForbidsSiblingsSpec)

/-- 'laws.FnExactRelabelClasses', WHERE WHAT IT READS IS OF BULK AT MOST 1048576: true; the input reads as it did. -/
def fnExactRelabelClassesUptoRow : OpenClaim := { program := "ytpfipmjmblgjfaa", sum := "afe7c9ec4840cc7ef3eeeee81eba03ca1f0f3164eef1abc04700cb20a372f9c0", func := "loop.example/g03221/laws.FnExactRelabelClasses", spec := "fnExactRelabelClasses", unfollowed := true, recurses := true, apart := false, narrowed := true }
def FnExactRelabelClassesUptoSaid : Prop := fnExactRelabelClassesUptoRow.holds Try.pinned (OpenSpec.upto fnExactRelabelClassesSpec)

/-- 'laws.FnExactProductClasses', WHERE WHAT IT READS IS OF BULK AT MOST 1048576: true; the input reads as it did. -/
def fnExactProductClassesUptoRow : OpenClaim := { program := "ytpfipmjmblgjfaa", sum := "afe7c9ec4840cc7ef3eeeee81eba03ca1f0f3164eef1abc04700cb20a372f9c0", func := "loop.example/g03221/laws.FnExactProductClasses", spec := "fnExactProductClasses", apart := false, narrowed := true }
def FnExactProductClassesUptoSaid : Prop := fnExactProductClassesUptoRow.holds Try.pinned (OpenSpec.upto fnExactProductClassesSpec)

/-- 'laws.FnExactSampleClasses', WHERE WHAT IT READS IS OF BULK AT MOST 1048576: true; the input reads as it did. -/
def fnExactSampleClassesUptoRow : OpenClaim := { program := "ytpfipmjmblgjfaa", sum := "afe7c9ec4840cc7ef3eeeee81eba03ca1f0f3164eef1abc04700cb20a372f9c0", func := "loop.example/g03221/laws.FnExactSampleClasses", spec := "fnExactSampleClasses", apart := false, narrowed := true }
def FnExactSampleClassesUptoSaid : Prop := fnExactSampleClassesUptoRow.holds Try.pinned (OpenSpec.upto fnExactSampleClassesSpec)

/-- 'laws.FnExactTypePermutation', WHERE WHAT IT READS IS OF BULK AT MOST 1048576: true; the input reads as it did. -/
def fnExactTypePermutationUptoRow : OpenClaim := { program := "ytpfipmjmblgjfaa", sum := "afe7c9ec4840cc7ef3eeeee81eba03ca1f0f3164eef1abc04700cb20a372f9c0", func := "loop.example/g03221/laws.FnExactTypePermutation", spec := "fnExactTypePermutation", unfollowed := true, recurses := true, apart := false, narrowed := true }
def FnExactTypePermutationUptoSaid : Prop := fnExactTypePermutationUptoRow.holds Try.pinned (OpenSpec.upto fnExactTypePermutationSpec)

/-- 'laws.FnExactAllowsType', WHERE WHAT IT READS IS OF BULK AT MOST 1048576: true; the input reads as it did. -/
def fnExactAllowsTypeUptoRow : OpenClaim := { program := "ytpfipmjmblgjfaa", sum := "afe7c9ec4840cc7ef3eeeee81eba03ca1f0f3164eef1abc04700cb20a372f9c0", func := "loop.example/g03221/laws.FnExactAllowsType", spec := "fnExactAllowsType", unfollowed := true, recurses := true, apart := false, narrowed := true }
def FnExactAllowsTypeUptoSaid : Prop := fnExactAllowsTypeUptoRow.holds Try.pinned (OpenSpec.upto fnExactAllowsTypeSpec)

/-- 'laws.FnExactCanonicalClasses', WHERE WHAT IT READS IS OF BULK AT MOST 1048576: true; the input reads as it did. -/
def fnExactCanonicalClassesUptoRow : OpenClaim := { program := "ytpfipmjmblgjfaa", sum := "afe7c9ec4840cc7ef3eeeee81eba03ca1f0f3164eef1abc04700cb20a372f9c0", func := "loop.example/g03221/laws.FnExactCanonicalClasses", spec := "fnExactCanonicalClasses", unfollowed := true, recurses := true, apart := false, narrowed := true }
def FnExactCanonicalClassesUptoSaid : Prop := fnExactCanonicalClassesUptoRow.holds Try.pinned (OpenSpec.upto fnExactCanonicalClassesSpec)

/-- 'laws.FnExactSameClasses', WHERE WHAT IT READS IS OF BULK AT MOST 1048576: true; the input reads as it did. -/
def fnExactSameClassesUptoRow : OpenClaim := { program := "ytpfipmjmblgjfaa", sum := "afe7c9ec4840cc7ef3eeeee81eba03ca1f0f3164eef1abc04700cb20a372f9c0", func := "loop.example/g03221/laws.FnExactSameClasses", spec := "fnExactSameClasses", unfollowed := true, recurses := true, apart := false, narrowed := true }
def FnExactSameClassesUptoSaid : Prop := fnExactSameClassesUptoRow.holds Try.pinned (OpenSpec.upto fnExactSameClassesSpec)

/-- 'laws.FnExactReductsOf', WHERE WHAT IT READS IS OF BULK AT MOST 1048576: true; the input reads as it did. -/
def fnExactReductsOfUptoRow : OpenClaim := { program := "ytpfipmjmblgjfaa", sum := "afe7c9ec4840cc7ef3eeeee81eba03ca1f0f3164eef1abc04700cb20a372f9c0", func := "loop.example/g03221/laws.FnExactReductsOf", spec := "fnExactReductsOf", unfollowed := true, recurses := true, apart := false, narrowed := true }
def FnExactReductsOfUptoSaid : Prop := fnExactReductsOfUptoRow.holds Try.pinned (OpenSpec.upto fnExactReductsOfSpec)

/-- 'laws.FnExactNormalForm', WHERE WHAT IT READS IS OF BULK AT MOST 1048576: true; the input reads as it did. -/
def fnExactNormalFormUptoRow : OpenClaim := { program := "ytpfipmjmblgjfaa", sum := "afe7c9ec4840cc7ef3eeeee81eba03ca1f0f3164eef1abc04700cb20a372f9c0", func := "loop.example/g03221/laws.FnExactNormalForm", spec := "fnExactNormalForm", unfollowed := true, recurses := true, apart := false, narrowed := true }
def FnExactNormalFormUptoSaid : Prop := fnExactNormalFormUptoRow.holds Try.pinned (OpenSpec.upto fnExactNormalFormSpec)

/-- 'laws.FnExactFormatType', WHERE WHAT IT READS IS OF BULK AT MOST 1048576: true; the input reads as it did. -/
def fnExactFormatTypeUptoRow : OpenClaim := { program := "ytpfipmjmblgjfaa", sum := "afe7c9ec4840cc7ef3eeeee81eba03ca1f0f3164eef1abc04700cb20a372f9c0", func := "loop.example/g03221/laws.FnExactFormatType", spec := "fnExactFormatType", inPlace := ["internal/abi.NoEscape"], apart := false, narrowed := true }
def FnExactFormatTypeUptoSaid : Prop := fnExactFormatTypeUptoRow.holds Try.pinned (OpenSpec.upto fnExactFormatTypeSpec)

/-- 'laws.FnExactParseType', WHERE WHAT IT READS IS OF BULK AT MOST 1048576: true; the input reads as it did. -/
def fnExactParseTypeUptoRow : OpenClaim := { program := "ytpfipmjmblgjfaa", sum := "afe7c9ec4840cc7ef3eeeee81eba03ca1f0f3164eef1abc04700cb20a372f9c0", func := "loop.example/g03221/laws.FnExactParseType", spec := "fnExactParseType", inPlace := ["internal/bytealg.IndexByteString", "internal/bytealg.IndexString", "internal/abi.NoEscape"], named := ["internal/bytealg.MaxLen"], apart := false, narrowed := true }
def FnExactParseTypeUptoSaid : Prop := fnExactParseTypeUptoRow.holds Try.pinned (OpenSpec.upto fnExactParseTypeSpec)

/-- 'laws.FnExactFormatRule', WHERE WHAT IT READS IS OF BULK AT MOST 1048576: true; the input reads as it did. -/
def fnExactFormatRuleUptoRow : OpenClaim := { program := "ytpfipmjmblgjfaa", sum := "afe7c9ec4840cc7ef3eeeee81eba03ca1f0f3164eef1abc04700cb20a372f9c0", func := "loop.example/g03221/laws.FnExactFormatRule", spec := "fnExactFormatRule", inPlace := ["internal/abi.NoEscape"], unfollowed := true, recurses := true, apart := false, narrowed := true }
def FnExactFormatRuleUptoSaid : Prop := fnExactFormatRuleUptoRow.holds Try.pinned (OpenSpec.upto fnExactFormatRuleSpec)

/-- 'laws.FnExactParseRule', WHERE WHAT IT READS IS OF BULK AT MOST 1048576: true; the input reads as it did. -/
def fnExactParseRuleUptoRow : OpenClaim := { program := "ytpfipmjmblgjfaa", sum := "afe7c9ec4840cc7ef3eeeee81eba03ca1f0f3164eef1abc04700cb20a372f9c0", func := "loop.example/g03221/laws.FnExactParseRule", spec := "fnExactParseRule", inPlace := ["internal/bytealg.IndexByteString", "internal/bytealg.IndexString", "internal/abi.NoEscape"], unfollowed := true, recurses := true, named := ["internal/bytealg.MaxLen"], apart := false, narrowed := true }
def FnExactParseRuleUptoSaid : Prop := fnExactParseRuleUptoRow.holds Try.pinned (OpenSpec.upto fnExactParseRuleSpec)

/-- 'laws.FnExactTraceReduction', WHERE WHAT IT READS IS OF BULK AT MOST 1048576: true; the input reads as it did. -/
def fnExactTraceReductionUptoRow : OpenClaim := { program := "ytpfipmjmblgjfaa", sum := "afe7c9ec4840cc7ef3eeeee81eba03ca1f0f3164eef1abc04700cb20a372f9c0", func := "loop.example/g03221/laws.FnExactTraceReduction", spec := "fnExactTraceReduction", inPlace := ["internal/abi.NoEscape"], unfollowed := true, recurses := true, apart := false, narrowed := true }
def FnExactTraceReductionUptoSaid : Prop := fnExactTraceReductionUptoRow.holds Try.pinned (OpenSpec.upto fnExactTraceReductionSpec)

/-- 'laws.FnExactSampleRules', WHERE WHAT IT READS IS OF BULK AT MOST 1048576: true; the input reads as it did. -/
def fnExactSampleRulesUptoRow : OpenClaim := { program := "ytpfipmjmblgjfaa", sum := "afe7c9ec4840cc7ef3eeeee81eba03ca1f0f3164eef1abc04700cb20a372f9c0", func := "loop.example/g03221/laws.FnExactSampleRules", spec := "fnExactSampleRules", inPlace := ["internal/bytealg.IndexByteString", "internal/bytealg.IndexString", "internal/abi.NoEscape"], unfollowed := true, recurses := true, named := ["internal/bytealg.MaxLen"], apart := false, narrowed := true }
def FnExactSampleRulesUptoSaid : Prop := fnExactSampleRulesUptoRow.holds Try.pinned (OpenSpec.upto fnExactSampleRulesSpec)

/-- 'laws.FnPermutations', WHERE WHAT IT READS IS OF BULK AT MOST 1048576: true; the input reads as it did. -/
def fnPermutationsUptoRow : OpenClaim := { program := "ytpfipmjmblgjfaa", sum := "afe7c9ec4840cc7ef3eeeee81eba03ca1f0f3164eef1abc04700cb20a372f9c0", func := "loop.example/g03221/laws.FnPermutations", spec := "fnPermutations", unfollowed := true, recurses := true, apart := false, narrowed := true }
def FnPermutationsUptoSaid : Prop := fnPermutationsUptoRow.holds Try.pinned (OpenSpec.upto fnPermutationsSpec)

end Rows
end Go.Proofs.Ytpfipmjmblgjfaa
