/-
  No cell of these rows narrows 'for every input' (looked for: loops, veiled, ifaces, maps, wideKeys, modest, calm, conditions, laid).
  DERIVED. THE GIVEN ROWS OF THIS SEAT. 13 by the template 'for every input the law returns true; each argument reads behind the call as it read before'; 0 by the template 'total and deterministic' (their statements: YtomjdjceflbifaaTotals.lean).
  GIVEN WITH THE SEED: the statements are not yours to turn. If you find one false, say at which input.
  Laid BY PROGRAM, IN A SANDBOX (cutbox-rows.mjs): the forced cells as the released guide's own fill.sh prints them over the translation c1124fc5fe07c3f9… (all of the seat's roots in one cut). By AI agents, Wed Nov 11 2026. No macro, syntax, notation, axiom, sorry.
-/
import Derived.Test.YtomjdjceflbifaaChecked
import GoSem.Claim
import GoSem.ClaimJoined
import GoSem.ClaimMapViews
import Derived.JoinedTies
import Derived.KernelRfl
namespace Go.Proofs.Ytomjdjceflbifaa
/- THE CELL 'sum', in the pinned program and in every row, IS THE sha256 OF THE DUMP (.gsa) THAT YtomjdjceflbifaaProg.lean LOADS. Nothing in Lean hashes anything: it is a label: what it is worth is what the hold of that sum in a sandbox is worth. -/
noncomputable def Try.pinned : Pinned := { name := "ytomjdjceflbifaa", sum := "c1124fc5fe07c3f9cc553570bc11d3b304549860038bce5fbcf38a42df57ceb2", checked := Try.checked }
namespace Rows
def none {H : Type} : Left H := { results := [], args := [] }

/-- 'laws.FnExactRewriteStep': WHATEVER THE INPUT: true; the input reads as it did. -/
def fnExactRewriteStepSpec : ChangeSpec := { name := "fnExactRewriteStep", fn := fun _ => fun
  | [d1, d2] => { results := [.lit (.bool true)], args := [d1, d2] }
  | _ => none }
def fnExactRewriteStepRow : OpenClaim := { program := "ytomjdjceflbifaa", sum := "c1124fc5fe07c3f9cc553570bc11d3b304549860038bce5fbcf38a42df57ceb2", func := "loop.example/g03221/laws.FnExactRewriteStep", spec := "fnExactRewriteStep", unfollowed := true, recurses := true, apart := false }
def FnExactRewriteStepSaid : Prop := fnExactRewriteStepRow.holds Try.pinned (OpenSpec.ofChange fnExactRewriteStepSpec)

/-- ITS FALSE NEIGHBOUR: 'it returns false'. Refute it at one input. -/
def fnExactRewriteStepWrong : ChangeSpec := { name := "fnExactRewriteStep", fn := fun _ => fun
  | [d1, d2] => { results := [.lit (.bool false)], args := [d1, d2] }
  | _ => none }
def FnExactRewriteStepWrongFalsely : Prop := fnExactRewriteStepRow.holds Try.pinned (OpenSpec.ofChange fnExactRewriteStepWrong)

/-- 'laws.FnExactNormalForm': WHATEVER THE INPUT: true; the input reads as it did. -/
def fnExactNormalFormSpec : ChangeSpec := { name := "fnExactNormalForm", fn := fun _ => fun
  | [d1, d2] => { results := [.lit (.bool true)], args := [d1, d2] }
  | _ => none }
def fnExactNormalFormRow : OpenClaim := { program := "ytomjdjceflbifaa", sum := "c1124fc5fe07c3f9cc553570bc11d3b304549860038bce5fbcf38a42df57ceb2", func := "loop.example/g03221/laws.FnExactNormalForm", spec := "fnExactNormalForm", unfollowed := true, recurses := true, apart := false }
def FnExactNormalFormSaid : Prop := fnExactNormalFormRow.holds Try.pinned (OpenSpec.ofChange fnExactNormalFormSpec)

/-- ITS FALSE NEIGHBOUR: 'it returns false'. Refute it at one input. -/
def fnExactNormalFormWrong : ChangeSpec := { name := "fnExactNormalForm", fn := fun _ => fun
  | [d1, d2] => { results := [.lit (.bool false)], args := [d1, d2] }
  | _ => none }
def FnExactNormalFormWrongFalsely : Prop := fnExactNormalFormRow.holds Try.pinned (OpenSpec.ofChange fnExactNormalFormWrong)

/-- 'laws.FnExactReductsOf': WHATEVER THE INPUT: true; the input reads as it did. -/
def fnExactReductsOfSpec : ChangeSpec := { name := "fnExactReductsOf", fn := fun _ => fun
  | [d1, d2] => { results := [.lit (.bool true)], args := [d1, d2] }
  | _ => none }
def fnExactReductsOfRow : OpenClaim := { program := "ytomjdjceflbifaa", sum := "c1124fc5fe07c3f9cc553570bc11d3b304549860038bce5fbcf38a42df57ceb2", func := "loop.example/g03221/laws.FnExactReductsOf", spec := "fnExactReductsOf", unfollowed := true, recurses := true, apart := false }
def FnExactReductsOfSaid : Prop := fnExactReductsOfRow.holds Try.pinned (OpenSpec.ofChange fnExactReductsOfSpec)

/-- ITS FALSE NEIGHBOUR: 'it returns false'. Refute it at one input. -/
def fnExactReductsOfWrong : ChangeSpec := { name := "fnExactReductsOf", fn := fun _ => fun
  | [d1, d2] => { results := [.lit (.bool false)], args := [d1, d2] }
  | _ => none }
def FnExactReductsOfWrongFalsely : Prop := fnExactReductsOfRow.holds Try.pinned (OpenSpec.ofChange fnExactReductsOfWrong)

/-- 'laws.FnExactReverseType': WHATEVER THE INPUT: true; the input reads as it did. -/
def fnExactReverseTypeSpec : ChangeSpec := { name := "fnExactReverseType", fn := fun _ => fun
  | [d] => { results := [.lit (.bool true)], args := [d] }
  | _ => none }
def fnExactReverseTypeRow : OpenClaim := { program := "ytomjdjceflbifaa", sum := "c1124fc5fe07c3f9cc553570bc11d3b304549860038bce5fbcf38a42df57ceb2", func := "loop.example/g03221/laws.FnExactReverseType", spec := "fnExactReverseType", unfollowed := true, recurses := true, apart := false }
def FnExactReverseTypeSaid : Prop := fnExactReverseTypeRow.holds Try.pinned (OpenSpec.ofChange fnExactReverseTypeSpec)

/-- ITS FALSE NEIGHBOUR: 'it returns false'. Refute it at one input. -/
def fnExactReverseTypeWrong : ChangeSpec := { name := "fnExactReverseType", fn := fun _ => fun
  | [d] => { results := [.lit (.bool false)], args := [d] }
  | _ => none }
def FnExactReverseTypeWrongFalsely : Prop := fnExactReverseTypeRow.holds Try.pinned (OpenSpec.ofChange fnExactReverseTypeWrong)

/-- 'laws.FnExactTypesFrom': WHATEVER THE INPUT: true; the input reads as it did. -/
def fnExactTypesFromSpec : ChangeSpec := { name := "fnExactTypesFrom", fn := fun _ => fun
  | [d1, d2] => { results := [.lit (.bool true)], args := [d1, d2] }
  | _ => none }
def fnExactTypesFromRow : OpenClaim := { program := "ytomjdjceflbifaa", sum := "c1124fc5fe07c3f9cc553570bc11d3b304549860038bce5fbcf38a42df57ceb2", func := "loop.example/g03221/laws.FnExactTypesFrom", spec := "fnExactTypesFrom", apart := false }
def FnExactTypesFromSaid : Prop := fnExactTypesFromRow.holds Try.pinned (OpenSpec.ofChange fnExactTypesFromSpec)

/-- ITS FALSE NEIGHBOUR: 'it returns false'. Refute it at one input. -/
def fnExactTypesFromWrong : ChangeSpec := { name := "fnExactTypesFrom", fn := fun _ => fun
  | [d1, d2] => { results := [.lit (.bool false)], args := [d1, d2] }
  | _ => none }
def FnExactTypesFromWrongFalsely : Prop := fnExactTypesFromRow.holds Try.pinned (OpenSpec.ofChange fnExactTypesFromWrong)

/-- 'laws.FnExactFormatType': WHATEVER THE INPUT: true; the input reads as it did. -/
def fnExactFormatTypeSpec : ChangeSpec := { name := "fnExactFormatType", fn := fun _ => fun
  | [d] => { results := [.lit (.bool true)], args := [d] }
  | _ => none }
def fnExactFormatTypeRow : OpenClaim := { program := "ytomjdjceflbifaa", sum := "c1124fc5fe07c3f9cc553570bc11d3b304549860038bce5fbcf38a42df57ceb2", func := "loop.example/g03221/laws.FnExactFormatType", spec := "fnExactFormatType", inPlace := ["internal/abi.NoEscape"], apart := false }
def FnExactFormatTypeSaid : Prop := fnExactFormatTypeRow.holds Try.pinned (OpenSpec.ofChange fnExactFormatTypeSpec)

/-- ITS FALSE NEIGHBOUR: 'it returns false'. Refute it at one input. -/
def fnExactFormatTypeWrong : ChangeSpec := { name := "fnExactFormatType", fn := fun _ => fun
  | [d] => { results := [.lit (.bool false)], args := [d] }
  | _ => none }
def FnExactFormatTypeWrongFalsely : Prop := fnExactFormatTypeRow.holds Try.pinned (OpenSpec.ofChange fnExactFormatTypeWrong)

/-- 'laws.FnExactParseType': WHATEVER THE INPUT: true; the input reads as it did. -/
def fnExactParseTypeSpec : ChangeSpec := { name := "fnExactParseType", fn := fun _ => fun
  | [d] => { results := [.lit (.bool true)], args := [d] }
  | _ => none }
def fnExactParseTypeRow : OpenClaim := { program := "ytomjdjceflbifaa", sum := "c1124fc5fe07c3f9cc553570bc11d3b304549860038bce5fbcf38a42df57ceb2", func := "loop.example/g03221/laws.FnExactParseType", spec := "fnExactParseType", inPlace := ["internal/bytealg.IndexByteString", "internal/bytealg.IndexString", "internal/abi.NoEscape"], named := ["internal/bytealg.MaxLen"], apart := false }
def FnExactParseTypeSaid : Prop := fnExactParseTypeRow.holds Try.pinned (OpenSpec.ofChange fnExactParseTypeSpec)

/-- ITS FALSE NEIGHBOUR: 'it returns false'. Refute it at one input. -/
def fnExactParseTypeWrong : ChangeSpec := { name := "fnExactParseType", fn := fun _ => fun
  | [d] => { results := [.lit (.bool false)], args := [d] }
  | _ => none }
def FnExactParseTypeWrongFalsely : Prop := fnExactParseTypeRow.holds Try.pinned (OpenSpec.ofChange fnExactParseTypeWrong)

/-- 'laws.FnExactFormatRule': WHATEVER THE INPUT: true; the input reads as it did. -/
def fnExactFormatRuleSpec : ChangeSpec := { name := "fnExactFormatRule", fn := fun _ => fun
  | [d] => { results := [.lit (.bool true)], args := [d] }
  | _ => none }
def fnExactFormatRuleRow : OpenClaim := { program := "ytomjdjceflbifaa", sum := "c1124fc5fe07c3f9cc553570bc11d3b304549860038bce5fbcf38a42df57ceb2", func := "loop.example/g03221/laws.FnExactFormatRule", spec := "fnExactFormatRule", inPlace := ["internal/abi.NoEscape"], unfollowed := true, recurses := true, apart := false }
def FnExactFormatRuleSaid : Prop := fnExactFormatRuleRow.holds Try.pinned (OpenSpec.ofChange fnExactFormatRuleSpec)

/-- ITS FALSE NEIGHBOUR: 'it returns false'. Refute it at one input. -/
def fnExactFormatRuleWrong : ChangeSpec := { name := "fnExactFormatRule", fn := fun _ => fun
  | [d] => { results := [.lit (.bool false)], args := [d] }
  | _ => none }
def FnExactFormatRuleWrongFalsely : Prop := fnExactFormatRuleRow.holds Try.pinned (OpenSpec.ofChange fnExactFormatRuleWrong)

/-- 'laws.FnExactParseRule': WHATEVER THE INPUT: true; the input reads as it did. -/
def fnExactParseRuleSpec : ChangeSpec := { name := "fnExactParseRule", fn := fun _ => fun
  | [d] => { results := [.lit (.bool true)], args := [d] }
  | _ => none }
def fnExactParseRuleRow : OpenClaim := { program := "ytomjdjceflbifaa", sum := "c1124fc5fe07c3f9cc553570bc11d3b304549860038bce5fbcf38a42df57ceb2", func := "loop.example/g03221/laws.FnExactParseRule", spec := "fnExactParseRule", inPlace := ["internal/bytealg.IndexByteString", "internal/bytealg.IndexString", "internal/abi.NoEscape"], unfollowed := true, recurses := true, named := ["internal/bytealg.MaxLen"], apart := false }
def FnExactParseRuleSaid : Prop := fnExactParseRuleRow.holds Try.pinned (OpenSpec.ofChange fnExactParseRuleSpec)

/-- ITS FALSE NEIGHBOUR: 'it returns false'. Refute it at one input. -/
def fnExactParseRuleWrong : ChangeSpec := { name := "fnExactParseRule", fn := fun _ => fun
  | [d] => { results := [.lit (.bool false)], args := [d] }
  | _ => none }
def FnExactParseRuleWrongFalsely : Prop := fnExactParseRuleRow.holds Try.pinned (OpenSpec.ofChange fnExactParseRuleWrong)

/-- 'laws.FnExactTraceReduction': WHATEVER THE INPUT: true; the input reads as it did. -/
def fnExactTraceReductionSpec : ChangeSpec := { name := "fnExactTraceReduction", fn := fun _ => fun
  | [d1, d2] => { results := [.lit (.bool true)], args := [d1, d2] }
  | _ => none }
def fnExactTraceReductionRow : OpenClaim := { program := "ytomjdjceflbifaa", sum := "c1124fc5fe07c3f9cc553570bc11d3b304549860038bce5fbcf38a42df57ceb2", func := "loop.example/g03221/laws.FnExactTraceReduction", spec := "fnExactTraceReduction", inPlace := ["internal/abi.NoEscape"], unfollowed := true, recurses := true, apart := false }
def FnExactTraceReductionSaid : Prop := fnExactTraceReductionRow.holds Try.pinned (OpenSpec.ofChange fnExactTraceReductionSpec)

/-- ITS FALSE NEIGHBOUR: 'it returns false'. Refute it at one input. -/
def fnExactTraceReductionWrong : ChangeSpec := { name := "fnExactTraceReduction", fn := fun _ => fun
  | [d1, d2] => { results := [.lit (.bool false)], args := [d1, d2] }
  | _ => none }
def FnExactTraceReductionWrongFalsely : Prop := fnExactTraceReductionRow.holds Try.pinned (OpenSpec.ofChange fnExactTraceReductionWrong)

/-- 'laws.FnExactSampleRules': WHATEVER THE INPUT: true; the input reads as it did. -/
def fnExactSampleRulesSpec : ChangeSpec := { name := "fnExactSampleRules", fn := fun _ => fun
  | [d] => { results := [.lit (.bool true)], args := [d] }
  | _ => none }
def fnExactSampleRulesRow : OpenClaim := { program := "ytomjdjceflbifaa", sum := "c1124fc5fe07c3f9cc553570bc11d3b304549860038bce5fbcf38a42df57ceb2", func := "loop.example/g03221/laws.FnExactSampleRules", spec := "fnExactSampleRules", inPlace := ["internal/bytealg.IndexByteString", "internal/bytealg.IndexString", "internal/abi.NoEscape"], unfollowed := true, recurses := true, named := ["internal/bytealg.MaxLen"], apart := false }
def FnExactSampleRulesSaid : Prop := fnExactSampleRulesRow.holds Try.pinned (OpenSpec.ofChange fnExactSampleRulesSpec)

/-- ITS FALSE NEIGHBOUR: 'it returns false'. Refute it at one input. -/
def fnExactSampleRulesWrong : ChangeSpec := { name := "fnExactSampleRules", fn := fun _ => fun
  | [d] => { results := [.lit (.bool false)], args := [d] }
  | _ => none }
def FnExactSampleRulesWrongFalsely : Prop := fnExactSampleRulesRow.holds Try.pinned (OpenSpec.ofChange fnExactSampleRulesWrong)

/-- 'laws.FnExactIsTerminology': WHATEVER THE INPUT: true; the input reads as it did. -/
def fnExactIsTerminologySpec : ChangeSpec := { name := "fnExactIsTerminology", fn := fun _ => fun
  | [d] => { results := [.lit (.bool true)], args := [d] }
  | _ => none }
def fnExactIsTerminologyRow : OpenClaim := { program := "ytomjdjceflbifaa", sum := "c1124fc5fe07c3f9cc553570bc11d3b304549860038bce5fbcf38a42df57ceb2", func := "loop.example/g03221/laws.FnExactIsTerminology", spec := "fnExactIsTerminology", inPlace := ["internal/abi.NoEscape"], unfollowed := true, recurses := true, apart := false }
def FnExactIsTerminologySaid : Prop := fnExactIsTerminologyRow.holds Try.pinned (OpenSpec.ofChange fnExactIsTerminologySpec)

/-- ITS FALSE NEIGHBOUR: 'it returns false'. Refute it at one input. -/
def fnExactIsTerminologyWrong : ChangeSpec := { name := "fnExactIsTerminology", fn := fun _ => fun
  | [d] => { results := [.lit (.bool false)], args := [d] }
  | _ => none }
def FnExactIsTerminologyWrongFalsely : Prop := fnExactIsTerminologyRow.holds Try.pinned (OpenSpec.ofChange fnExactIsTerminologyWrong)

/-- 'laws.FnExactFormatTerminology': WHATEVER THE INPUT: true; the input reads as it did. -/
def fnExactFormatTerminologySpec : ChangeSpec := { name := "fnExactFormatTerminology", fn := fun _ => fun
  | [d] => { results := [.lit (.bool true)], args := [d] }
  | _ => none }
def fnExactFormatTerminologyRow : OpenClaim := { program := "ytomjdjceflbifaa", sum := "c1124fc5fe07c3f9cc553570bc11d3b304549860038bce5fbcf38a42df57ceb2", func := "loop.example/g03221/laws.FnExactFormatTerminology", spec := "fnExactFormatTerminology", inPlace := ["internal/abi.NoEscape"], unfollowed := true, recurses := true, apart := false }
def FnExactFormatTerminologySaid : Prop := fnExactFormatTerminologyRow.holds Try.pinned (OpenSpec.ofChange fnExactFormatTerminologySpec)

/-- ITS FALSE NEIGHBOUR: 'it returns false'. Refute it at one input. -/
def fnExactFormatTerminologyWrong : ChangeSpec := { name := "fnExactFormatTerminology", fn := fun _ => fun
  | [d] => { results := [.lit (.bool false)], args := [d] }
  | _ => none }
def FnExactFormatTerminologyWrongFalsely : Prop := fnExactFormatTerminologyRow.holds Try.pinned (OpenSpec.ofChange fnExactFormatTerminologyWrong)

/- THE SECOND FORM. 'bulk': how many values and letters a reading holds, each counted each time it is reached (what is shared counts as often as it is met; a slice's spare places count too). A statement '..UptoSaid' is the law's where the arguments, and the package variables that the reading takes, are together of bulk at most 1048576: NARROWER than '..Said'. Prove '..Said' where nothing that the law and all that it calls make is longer than what came in: it says more and counts as full. Else prove '..UptoSaid'. A law counts once. -/
mutual
def uptoBulk {H : Type} : DataW H → Nat
  | .lit (.string bytes) => bytes.length + 1
  | .lit _ => 1
  | .nil => 1
  | .ptr d => uptoBulk d + 1
  | .slice elems spare => uptoBulkAll elems + uptoBulkAll spare + 1
  | .agg parts => uptoBulkAll parts + 1
  | .iface _ d => uptoBulk d + 1
  | .map entries => uptoBulkEntries entries + 1
  | .held _ => 1
def uptoBulkAll {H : Type} : List (DataW H) → Nat
  | [] => 0
  | d :: r => uptoBulk d + uptoBulkAll r
def uptoBulkEntries {H : Type} : List (Lit × DataW H) → Nat
  | [] => 0
  | x :: r => uptoBulkEntry x + uptoBulkEntries r
def uptoBulkEntry {H : Type} : Lit × DataW H → Nat
  | (.string bytes, d) => bytes.length + uptoBulk d + 1
  | (_, d) => uptoBulk d + 1
 end
def uptoSmall : (H : Type) → List (DataW H) → Bool := fun _ ds => decide (uptoBulkAll ds ≤ 1048576)
def OpenSpec.upto (s : _root_.Go.ChangeSpec) : _root_.Go.OpenSpec := { _root_.Go.OpenSpec.ofChange s with cond := some uptoSmall }

/-- 'laws.FnExactRewriteStep', WHERE WHAT IT READS IS OF BULK AT MOST 1048576: true; the input reads as it did. -/
def fnExactRewriteStepUptoRow : OpenClaim := { program := "ytomjdjceflbifaa", sum := "c1124fc5fe07c3f9cc553570bc11d3b304549860038bce5fbcf38a42df57ceb2", func := "loop.example/g03221/laws.FnExactRewriteStep", spec := "fnExactRewriteStep", unfollowed := true, recurses := true, apart := false, narrowed := true }
def FnExactRewriteStepUptoSaid : Prop := fnExactRewriteStepUptoRow.holds Try.pinned (OpenSpec.upto fnExactRewriteStepSpec)

/-- 'laws.FnExactNormalForm', WHERE WHAT IT READS IS OF BULK AT MOST 1048576: true; the input reads as it did. -/
def fnExactNormalFormUptoRow : OpenClaim := { program := "ytomjdjceflbifaa", sum := "c1124fc5fe07c3f9cc553570bc11d3b304549860038bce5fbcf38a42df57ceb2", func := "loop.example/g03221/laws.FnExactNormalForm", spec := "fnExactNormalForm", unfollowed := true, recurses := true, apart := false, narrowed := true }
def FnExactNormalFormUptoSaid : Prop := fnExactNormalFormUptoRow.holds Try.pinned (OpenSpec.upto fnExactNormalFormSpec)

/-- 'laws.FnExactReductsOf', WHERE WHAT IT READS IS OF BULK AT MOST 1048576: true; the input reads as it did. -/
def fnExactReductsOfUptoRow : OpenClaim := { program := "ytomjdjceflbifaa", sum := "c1124fc5fe07c3f9cc553570bc11d3b304549860038bce5fbcf38a42df57ceb2", func := "loop.example/g03221/laws.FnExactReductsOf", spec := "fnExactReductsOf", unfollowed := true, recurses := true, apart := false, narrowed := true }
def FnExactReductsOfUptoSaid : Prop := fnExactReductsOfUptoRow.holds Try.pinned (OpenSpec.upto fnExactReductsOfSpec)

/-- 'laws.FnExactReverseType', WHERE WHAT IT READS IS OF BULK AT MOST 1048576: true; the input reads as it did. -/
def fnExactReverseTypeUptoRow : OpenClaim := { program := "ytomjdjceflbifaa", sum := "c1124fc5fe07c3f9cc553570bc11d3b304549860038bce5fbcf38a42df57ceb2", func := "loop.example/g03221/laws.FnExactReverseType", spec := "fnExactReverseType", unfollowed := true, recurses := true, apart := false, narrowed := true }
def FnExactReverseTypeUptoSaid : Prop := fnExactReverseTypeUptoRow.holds Try.pinned (OpenSpec.upto fnExactReverseTypeSpec)

/-- 'laws.FnExactTypesFrom', WHERE WHAT IT READS IS OF BULK AT MOST 1048576: true; the input reads as it did. -/
def fnExactTypesFromUptoRow : OpenClaim := { program := "ytomjdjceflbifaa", sum := "c1124fc5fe07c3f9cc553570bc11d3b304549860038bce5fbcf38a42df57ceb2", func := "loop.example/g03221/laws.FnExactTypesFrom", spec := "fnExactTypesFrom", apart := false, narrowed := true }
def FnExactTypesFromUptoSaid : Prop := fnExactTypesFromUptoRow.holds Try.pinned (OpenSpec.upto fnExactTypesFromSpec)

/-- 'laws.FnExactFormatType', WHERE WHAT IT READS IS OF BULK AT MOST 1048576: true; the input reads as it did. -/
def fnExactFormatTypeUptoRow : OpenClaim := { program := "ytomjdjceflbifaa", sum := "c1124fc5fe07c3f9cc553570bc11d3b304549860038bce5fbcf38a42df57ceb2", func := "loop.example/g03221/laws.FnExactFormatType", spec := "fnExactFormatType", inPlace := ["internal/abi.NoEscape"], apart := false, narrowed := true }
def FnExactFormatTypeUptoSaid : Prop := fnExactFormatTypeUptoRow.holds Try.pinned (OpenSpec.upto fnExactFormatTypeSpec)

/-- 'laws.FnExactParseType', WHERE WHAT IT READS IS OF BULK AT MOST 1048576: true; the input reads as it did. -/
def fnExactParseTypeUptoRow : OpenClaim := { program := "ytomjdjceflbifaa", sum := "c1124fc5fe07c3f9cc553570bc11d3b304549860038bce5fbcf38a42df57ceb2", func := "loop.example/g03221/laws.FnExactParseType", spec := "fnExactParseType", inPlace := ["internal/bytealg.IndexByteString", "internal/bytealg.IndexString", "internal/abi.NoEscape"], named := ["internal/bytealg.MaxLen"], apart := false, narrowed := true }
def FnExactParseTypeUptoSaid : Prop := fnExactParseTypeUptoRow.holds Try.pinned (OpenSpec.upto fnExactParseTypeSpec)

/-- 'laws.FnExactFormatRule', WHERE WHAT IT READS IS OF BULK AT MOST 1048576: true; the input reads as it did. -/
def fnExactFormatRuleUptoRow : OpenClaim := { program := "ytomjdjceflbifaa", sum := "c1124fc5fe07c3f9cc553570bc11d3b304549860038bce5fbcf38a42df57ceb2", func := "loop.example/g03221/laws.FnExactFormatRule", spec := "fnExactFormatRule", inPlace := ["internal/abi.NoEscape"], unfollowed := true, recurses := true, apart := false, narrowed := true }
def FnExactFormatRuleUptoSaid : Prop := fnExactFormatRuleUptoRow.holds Try.pinned (OpenSpec.upto fnExactFormatRuleSpec)

/-- 'laws.FnExactParseRule', WHERE WHAT IT READS IS OF BULK AT MOST 1048576: true; the input reads as it did. -/
def fnExactParseRuleUptoRow : OpenClaim := { program := "ytomjdjceflbifaa", sum := "c1124fc5fe07c3f9cc553570bc11d3b304549860038bce5fbcf38a42df57ceb2", func := "loop.example/g03221/laws.FnExactParseRule", spec := "fnExactParseRule", inPlace := ["internal/bytealg.IndexByteString", "internal/bytealg.IndexString", "internal/abi.NoEscape"], unfollowed := true, recurses := true, named := ["internal/bytealg.MaxLen"], apart := false, narrowed := true }
def FnExactParseRuleUptoSaid : Prop := fnExactParseRuleUptoRow.holds Try.pinned (OpenSpec.upto fnExactParseRuleSpec)

/-- 'laws.FnExactTraceReduction', WHERE WHAT IT READS IS OF BULK AT MOST 1048576: true; the input reads as it did. -/
def fnExactTraceReductionUptoRow : OpenClaim := { program := "ytomjdjceflbifaa", sum := "c1124fc5fe07c3f9cc553570bc11d3b304549860038bce5fbcf38a42df57ceb2", func := "loop.example/g03221/laws.FnExactTraceReduction", spec := "fnExactTraceReduction", inPlace := ["internal/abi.NoEscape"], unfollowed := true, recurses := true, apart := false, narrowed := true }
def FnExactTraceReductionUptoSaid : Prop := fnExactTraceReductionUptoRow.holds Try.pinned (OpenSpec.upto fnExactTraceReductionSpec)

/-- 'laws.FnExactSampleRules', WHERE WHAT IT READS IS OF BULK AT MOST 1048576: true; the input reads as it did. -/
def fnExactSampleRulesUptoRow : OpenClaim := { program := "ytomjdjceflbifaa", sum := "c1124fc5fe07c3f9cc553570bc11d3b304549860038bce5fbcf38a42df57ceb2", func := "loop.example/g03221/laws.FnExactSampleRules", spec := "fnExactSampleRules", inPlace := ["internal/bytealg.IndexByteString", "internal/bytealg.IndexString", "internal/abi.NoEscape"], unfollowed := true, recurses := true, named := ["internal/bytealg.MaxLen"], apart := false, narrowed := true }
def FnExactSampleRulesUptoSaid : Prop := fnExactSampleRulesUptoRow.holds Try.pinned (OpenSpec.upto fnExactSampleRulesSpec)

/-- 'laws.FnExactIsTerminology', WHERE WHAT IT READS IS OF BULK AT MOST 1048576: true; the input reads as it did. -/
def fnExactIsTerminologyUptoRow : OpenClaim := { program := "ytomjdjceflbifaa", sum := "c1124fc5fe07c3f9cc553570bc11d3b304549860038bce5fbcf38a42df57ceb2", func := "loop.example/g03221/laws.FnExactIsTerminology", spec := "fnExactIsTerminology", inPlace := ["internal/abi.NoEscape"], unfollowed := true, recurses := true, apart := false, narrowed := true }
def FnExactIsTerminologyUptoSaid : Prop := fnExactIsTerminologyUptoRow.holds Try.pinned (OpenSpec.upto fnExactIsTerminologySpec)

/-- 'laws.FnExactFormatTerminology', WHERE WHAT IT READS IS OF BULK AT MOST 1048576: true; the input reads as it did. -/
def fnExactFormatTerminologyUptoRow : OpenClaim := { program := "ytomjdjceflbifaa", sum := "c1124fc5fe07c3f9cc553570bc11d3b304549860038bce5fbcf38a42df57ceb2", func := "loop.example/g03221/laws.FnExactFormatTerminology", spec := "fnExactFormatTerminology", inPlace := ["internal/abi.NoEscape"], unfollowed := true, recurses := true, apart := false, narrowed := true }
def FnExactFormatTerminologyUptoSaid : Prop := fnExactFormatTerminologyUptoRow.holds Try.pinned (OpenSpec.upto fnExactFormatTerminologySpec)

end Rows
end Go.Proofs.Ytomjdjceflbifaa
