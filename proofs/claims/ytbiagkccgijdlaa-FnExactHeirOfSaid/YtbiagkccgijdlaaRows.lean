/-
  No cell of these rows narrows 'for every input' (looked for: loops, veiled, ifaces, maps, wideKeys, modest, calm, conditions, laid).
  DERIVED. THE GIVEN ROWS OF THIS SEAT. 9 by the template 'for every input the law returns true; each argument reads behind the call as it read before'; 0 by the template 'total and deterministic' (their statements: YtbiagkccgijdlaaTotals.lean).
  GIVEN WITH THE SEED: the statements are not yours to turn. If you find one false, say at which input.
  Laid BY PROGRAM, IN A SANDBOX (cutbox-rows.mjs): the forced cells as the released guide's own fill.sh prints them over the translation 6830718140334bbd… (all of the seat's roots in one cut). By AI agents, Wed Nov 11 2026. No macro, syntax, notation, axiom, sorry.
-/
import Derived.Test.YtbiagkccgijdlaaChecked
import GoSem.Claim
import GoSem.ClaimJoined
import GoSem.ClaimMapViews
import Derived.JoinedTies
import Derived.KernelRfl
namespace Go.Proofs.Ytbiagkccgijdlaa
/- THE CELL 'sum', in the pinned program and in every row, IS THE sha256 OF THE DUMP (.gsa) THAT YtbiagkccgijdlaaProg.lean LOADS. Nothing in Lean hashes anything: it is a label: what it is worth is what the hold of that sum in a sandbox is worth. -/
noncomputable def Try.pinned : Pinned := { name := "ytbiagkccgijdlaa", sum := "6830718140334bbd3b6cee06b179a6350e920aee671c3d74e7771009a605bbfa", checked := Try.checked }
namespace Rows
def none {H : Type} : Left H := { results := [], args := [] }

/-- 'laws.FnExactIsCustom': WHATEVER THE INPUT: true; the input reads as it did. -/
def fnExactIsCustomSpec : ChangeSpec := { name := "fnExactIsCustom", fn := fun _ => fun
  | [d] => { results := [.lit (.bool true)], args := [d] }
  | _ => none }
def fnExactIsCustomRow : OpenClaim := { program := "ytbiagkccgijdlaa", sum := "6830718140334bbd3b6cee06b179a6350e920aee671c3d74e7771009a605bbfa", func := "loop.example/g03221/laws.FnExactIsCustom", spec := "fnExactIsCustom", plainKeys := false, apart := false }
def FnExactIsCustomSaid : Prop := fnExactIsCustomRow.holds Try.pinned (OpenSpec.ofChange fnExactIsCustomSpec)

/-- ITS FALSE NEIGHBOUR: 'it returns false'. Refute it at one input. -/
def fnExactIsCustomWrong : ChangeSpec := { name := "fnExactIsCustom", fn := fun _ => fun
  | [d] => { results := [.lit (.bool false)], args := [d] }
  | _ => none }
def FnExactIsCustomWrongFalsely : Prop := fnExactIsCustomRow.holds Try.pinned (OpenSpec.ofChange fnExactIsCustomWrong)

/-- 'laws.FnExactFormatCustom': WHATEVER THE INPUT: true; the input reads as it did. -/
def fnExactFormatCustomSpec : ChangeSpec := { name := "fnExactFormatCustom", fn := fun _ => fun
  | [d] => { results := [.lit (.bool true)], args := [d] }
  | _ => none }
def fnExactFormatCustomRow : OpenClaim := { program := "ytbiagkccgijdlaa", sum := "6830718140334bbd3b6cee06b179a6350e920aee671c3d74e7771009a605bbfa", func := "loop.example/g03221/laws.FnExactFormatCustom", spec := "fnExactFormatCustom", plainKeys := false, apart := false }
def FnExactFormatCustomSaid : Prop := fnExactFormatCustomRow.holds Try.pinned (OpenSpec.ofChange fnExactFormatCustomSpec)

/-- ITS FALSE NEIGHBOUR: 'it returns false'. Refute it at one input. -/
def fnExactFormatCustomWrong : ChangeSpec := { name := "fnExactFormatCustom", fn := fun _ => fun
  | [d] => { results := [.lit (.bool false)], args := [d] }
  | _ => none }
def FnExactFormatCustomWrongFalsely : Prop := fnExactFormatCustomRow.holds Try.pinned (OpenSpec.ofChange fnExactFormatCustomWrong)

/-- 'laws.FnExactParseCustom': WHATEVER THE INPUT: true; the input reads as it did. -/
def fnExactParseCustomSpec : ChangeSpec := { name := "fnExactParseCustom", fn := fun _ => fun
  | [d] => { results := [.lit (.bool true)], args := [d] }
  | _ => none }
def fnExactParseCustomRow : OpenClaim := { program := "ytbiagkccgijdlaa", sum := "6830718140334bbd3b6cee06b179a6350e920aee671c3d74e7771009a605bbfa", func := "loop.example/g03221/laws.FnExactParseCustom", spec := "fnExactParseCustom", plainKeys := false, apart := false }
def FnExactParseCustomSaid : Prop := fnExactParseCustomRow.holds Try.pinned (OpenSpec.ofChange fnExactParseCustomSpec)

/-- ITS FALSE NEIGHBOUR: 'it returns false'. Refute it at one input. -/
def fnExactParseCustomWrong : ChangeSpec := { name := "fnExactParseCustom", fn := fun _ => fun
  | [d] => { results := [.lit (.bool false)], args := [d] }
  | _ => none }
def FnExactParseCustomWrongFalsely : Prop := fnExactParseCustomRow.holds Try.pinned (OpenSpec.ofChange fnExactParseCustomWrong)

/-- 'laws.FnExactOrderChildren': WHATEVER THE INPUT: true; the input reads as it did. -/
def fnExactOrderChildrenSpec : ChangeSpec := { name := "fnExactOrderChildren", fn := fun _ => fun
  | [d1, d2, d3] => { results := [.lit (.bool true)], args := [d1, d2, d3] }
  | _ => none }
def fnExactOrderChildrenRow : OpenClaim := { program := "ytbiagkccgijdlaa", sum := "6830718140334bbd3b6cee06b179a6350e920aee671c3d74e7771009a605bbfa", func := "loop.example/g03221/laws.FnExactOrderChildren", spec := "fnExactOrderChildren", unfollowed := true, recurses := true, plainKeys := false, apart := false }
def FnExactOrderChildrenSaid : Prop := fnExactOrderChildrenRow.holds Try.pinned (OpenSpec.ofChange fnExactOrderChildrenSpec)

/-- ITS FALSE NEIGHBOUR: 'it returns false'. Refute it at one input. -/
def fnExactOrderChildrenWrong : ChangeSpec := { name := "fnExactOrderChildren", fn := fun _ => fun
  | [d1, d2, d3] => { results := [.lit (.bool false)], args := [d1, d2, d3] }
  | _ => none }
def FnExactOrderChildrenWrongFalsely : Prop := fnExactOrderChildrenRow.holds Try.pinned (OpenSpec.ofChange fnExactOrderChildrenWrong)

/-- 'laws.FnExactHeirsBelow': WHATEVER THE INPUT: true; the input reads as it did. -/
def fnExactHeirsBelowSpec : ChangeSpec := { name := "fnExactHeirsBelow", fn := fun _ => fun
  | [d1, d2, d3, d4] => { results := [.lit (.bool true)], args := [d1, d2, d3, d4] }
  | _ => none }
def fnExactHeirsBelowRow : OpenClaim := { program := "ytbiagkccgijdlaa", sum := "6830718140334bbd3b6cee06b179a6350e920aee671c3d74e7771009a605bbfa", func := "loop.example/g03221/laws.FnExactHeirsBelow", spec := "fnExactHeirsBelow", unfollowed := true, recurses := true, plainKeys := false, apart := false }
def FnExactHeirsBelowSaid : Prop := fnExactHeirsBelowRow.holds Try.pinned (OpenSpec.ofChange fnExactHeirsBelowSpec)

/-- ITS FALSE NEIGHBOUR: 'it returns false'. Refute it at one input. -/
def fnExactHeirsBelowWrong : ChangeSpec := { name := "fnExactHeirsBelow", fn := fun _ => fun
  | [d1, d2, d3, d4] => { results := [.lit (.bool false)], args := [d1, d2, d3, d4] }
  | _ => none }
def FnExactHeirsBelowWrongFalsely : Prop := fnExactHeirsBelowRow.holds Try.pinned (OpenSpec.ofChange fnExactHeirsBelowWrong)

/-- 'laws.FnExactSuccessionOrder': WHATEVER THE INPUT: true; the input reads as it did. -/
def fnExactSuccessionOrderSpec : ChangeSpec := { name := "fnExactSuccessionOrder", fn := fun _ => fun
  | [d1, d2, d3, d4] => { results := [.lit (.bool true)], args := [d1, d2, d3, d4] }
  | _ => none }
def fnExactSuccessionOrderRow : OpenClaim := { program := "ytbiagkccgijdlaa", sum := "6830718140334bbd3b6cee06b179a6350e920aee671c3d74e7771009a605bbfa", func := "loop.example/g03221/laws.FnExactSuccessionOrder", spec := "fnExactSuccessionOrder", unfollowed := true, recurses := true, plainKeys := false, apart := false }
def FnExactSuccessionOrderSaid : Prop := fnExactSuccessionOrderRow.holds Try.pinned (OpenSpec.ofChange fnExactSuccessionOrderSpec)

/-- ITS FALSE NEIGHBOUR: 'it returns false'. Refute it at one input. -/
def fnExactSuccessionOrderWrong : ChangeSpec := { name := "fnExactSuccessionOrder", fn := fun _ => fun
  | [d1, d2, d3, d4] => { results := [.lit (.bool false)], args := [d1, d2, d3, d4] }
  | _ => none }
def FnExactSuccessionOrderWrongFalsely : Prop := fnExactSuccessionOrderRow.holds Try.pinned (OpenSpec.ofChange fnExactSuccessionOrderWrong)

/-- 'laws.FnExactHeirOf': WHATEVER THE INPUT: true; the input reads as it did. -/
def fnExactHeirOfSpec : ChangeSpec := { name := "fnExactHeirOf", fn := fun _ => fun
  | [d1, d2, d3, d4] => { results := [.lit (.bool true)], args := [d1, d2, d3, d4] }
  | _ => none }
def fnExactHeirOfRow : OpenClaim := { program := "ytbiagkccgijdlaa", sum := "6830718140334bbd3b6cee06b179a6350e920aee671c3d74e7771009a605bbfa", func := "loop.example/g03221/laws.FnExactHeirOf", spec := "fnExactHeirOf", unfollowed := true, recurses := true, plainKeys := false, apart := false }
def FnExactHeirOfSaid : Prop := fnExactHeirOfRow.holds Try.pinned (OpenSpec.ofChange fnExactHeirOfSpec)

/-- ITS FALSE NEIGHBOUR: 'it returns false'. Refute it at one input. -/
def fnExactHeirOfWrong : ChangeSpec := { name := "fnExactHeirOf", fn := fun _ => fun
  | [d1, d2, d3, d4] => { results := [.lit (.bool false)], args := [d1, d2, d3, d4] }
  | _ => none }
def FnExactHeirOfWrongFalsely : Prop := fnExactHeirOfRow.holds Try.pinned (OpenSpec.ofChange fnExactHeirOfWrong)

/-- 'laws.FnSiblings': WHATEVER THE INPUT: true; the input reads as it did. -/
def fnSiblingsSpec : ChangeSpec := { name := "fnSiblings", fn := fun _ => fun
  | [d] => { results := [.lit (.bool true)], args := [d] }
  | _ => none }
def fnSiblingsRow : OpenClaim := { program := "ytbiagkccgijdlaa", sum := "6830718140334bbd3b6cee06b179a6350e920aee671c3d74e7771009a605bbfa", func := "loop.example/g03221/laws.FnSiblings", spec := "fnSiblings", unfollowed := true, recurses := true, plainKeys := false, apart := false }
def FnSiblingsSaid : Prop := fnSiblingsRow.holds Try.pinned (OpenSpec.ofChange fnSiblingsSpec)

/-- ITS FALSE NEIGHBOUR: 'it returns false'. Refute it at one input. -/
def fnSiblingsWrong : ChangeSpec := { name := "fnSiblings", fn := fun _ => fun
  | [d] => { results := [.lit (.bool false)], args := [d] }
  | _ => none }
def FnSiblingsWrongFalsely : Prop := fnSiblingsRow.holds Try.pinned (OpenSpec.ofChange fnSiblingsWrong)

/-- 'laws.FnLines': WHATEVER THE INPUT: true; the input reads as it did. -/
def fnLinesSpec : ChangeSpec := { name := "fnLines", fn := fun _ => fun
  | [d] => { results := [.lit (.bool true)], args := [d] }
  | _ => none }
def fnLinesRow : OpenClaim := { program := "ytbiagkccgijdlaa", sum := "6830718140334bbd3b6cee06b179a6350e920aee671c3d74e7771009a605bbfa", func := "loop.example/g03221/laws.FnLines", spec := "fnLines", unfollowed := true, recurses := true, plainKeys := false, apart := false }
def FnLinesSaid : Prop := fnLinesRow.holds Try.pinned (OpenSpec.ofChange fnLinesSpec)

/-- ITS FALSE NEIGHBOUR: 'it returns false'. Refute it at one input. -/
def fnLinesWrong : ChangeSpec := { name := "fnLines", fn := fun _ => fun
  | [d] => { results := [.lit (.bool false)], args := [d] }
  | _ => none }
def FnLinesWrongFalsely : Prop := fnLinesRow.holds Try.pinned (OpenSpec.ofChange fnLinesWrong)

/- THE SECOND FORM. 'bulk': how many values and letters a reading holds, each counted each time it is reached (what is shared counts as often as it is met; a slice's spare places count too). A statement '..UptoSaid' is the law's where the arguments, and the package variables that the reading takes, are together of bulk at most 1048576: NARROWER than '..Said'. Prove '..Said' where nothing that the law and all that it calls make is longer than what came in: it says more and counts as full. Else prove '..UptoSaid'. A law counts once. -/
mutual
def uptoBulk {H : Type} : DataW H → Nat
  | .lit (.string bytes) => bytes.length + 1
  | .lit _ => 1
  | .nil => 1
  | .ptr d => uptoBulk d + 1
  | .slice elems spare => uptoBulkAll elems + uptoBulkAll spare + 1
  | .agg parts => uptoBulkAll parts + 1
  | .iface _ d => uptoBulk d + 1
  | .map entries => uptoBulkEntries entries + 1
  | .held _ => 1
def uptoBulkAll {H : Type} : List (DataW H) → Nat
  | [] => 0
  | d :: r => uptoBulk d + uptoBulkAll r
def uptoBulkEntries {H : Type} : List (Lit × DataW H) → Nat
  | [] => 0
  | x :: r => uptoBulkEntry x + uptoBulkEntries r
def uptoBulkEntry {H : Type} : Lit × DataW H → Nat
  | (.string bytes, d) => bytes.length + uptoBulk d + 1
  | (_, d) => uptoBulk d + 1
 end
def uptoSmall : (H : Type) → List (DataW H) → Bool := fun _ ds => decide (uptoBulkAll ds ≤ 1048576)
def OpenSpec.upto (s : _root_.Go.ChangeSpec) : _root_.Go.OpenSpec := { _root_.Go.OpenSpec.ofChange s with cond := some uptoSmall }

/-- 'laws.FnExactIsCustom', WHERE WHAT IT READS IS OF BULK AT MOST 1048576: true; the input reads as it did. -/
def fnExactIsCustomUptoRow : OpenClaim := { program := "ytbiagkccgijdlaa", sum := "6830718140334bbd3b6cee06b179a6350e920aee671c3d74e7771009a605bbfa", func := "loop.example/g03221/laws.FnExactIsCustom", spec := "fnExactIsCustom", plainKeys := false, apart := false, narrowed := true }
def FnExactIsCustomUptoSaid : Prop := fnExactIsCustomUptoRow.holds Try.pinned (OpenSpec.upto fnExactIsCustomSpec)

/-- 'laws.FnExactFormatCustom', WHERE WHAT IT READS IS OF BULK AT MOST 1048576: true; the input reads as it did. -/
def fnExactFormatCustomUptoRow : OpenClaim := { program := "ytbiagkccgijdlaa", sum := "6830718140334bbd3b6cee06b179a6350e920aee671c3d74e7771009a605bbfa", func := "loop.example/g03221/laws.FnExactFormatCustom", spec := "fnExactFormatCustom", plainKeys := false, apart := false, narrowed := true }
def FnExactFormatCustomUptoSaid : Prop := fnExactFormatCustomUptoRow.holds Try.pinned (OpenSpec.upto fnExactFormatCustomSpec)

/-- 'laws.FnExactParseCustom', WHERE WHAT IT READS IS OF BULK AT MOST 1048576: true; the input reads as it did. -/
def fnExactParseCustomUptoRow : OpenClaim := { program := "ytbiagkccgijdlaa", sum := "6830718140334bbd3b6cee06b179a6350e920aee671c3d74e7771009a605bbfa", func := "loop.example/g03221/laws.FnExactParseCustom", spec := "fnExactParseCustom", plainKeys := false, apart := false, narrowed := true }
def FnExactParseCustomUptoSaid : Prop := fnExactParseCustomUptoRow.holds Try.pinned (OpenSpec.upto fnExactParseCustomSpec)

/-- 'laws.FnExactOrderChildren', WHERE WHAT IT READS IS OF BULK AT MOST 1048576: true; the input reads as it did. -/
def fnExactOrderChildrenUptoRow : OpenClaim := { program := "ytbiagkccgijdlaa", sum := "6830718140334bbd3b6cee06b179a6350e920aee671c3d74e7771009a605bbfa", func := "loop.example/g03221/laws.FnExactOrderChildren", spec := "fnExactOrderChildren", unfollowed := true, recurses := true, plainKeys := false, apart := false, narrowed := true }
def FnExactOrderChildrenUptoSaid : Prop := fnExactOrderChildrenUptoRow.holds Try.pinned (OpenSpec.upto fnExactOrderChildrenSpec)

/-- 'laws.FnExactHeirsBelow', WHERE WHAT IT READS IS OF BULK AT MOST 1048576: true; the input reads as it did. -/
def fnExactHeirsBelowUptoRow : OpenClaim := { program := "ytbiagkccgijdlaa", sum := "6830718140334bbd3b6cee06b179a6350e920aee671c3d74e7771009a605bbfa", func := "loop.example/g03221/laws.FnExactHeirsBelow", spec := "fnExactHeirsBelow", unfollowed := true, recurses := true, plainKeys := false, apart := false, narrowed := true }
def FnExactHeirsBelowUptoSaid : Prop := fnExactHeirsBelowUptoRow.holds Try.pinned (OpenSpec.upto fnExactHeirsBelowSpec)

/-- 'laws.FnExactSuccessionOrder', WHERE WHAT IT READS IS OF BULK AT MOST 1048576: true; the input reads as it did. -/
def fnExactSuccessionOrderUptoRow : OpenClaim := { program := "ytbiagkccgijdlaa", sum := "6830718140334bbd3b6cee06b179a6350e920aee671c3d74e7771009a605bbfa", func := "loop.example/g03221/laws.FnExactSuccessionOrder", spec := "fnExactSuccessionOrder", unfollowed := true, recurses := true, plainKeys := false, apart := false, narrowed := true }
def FnExactSuccessionOrderUptoSaid : Prop := fnExactSuccessionOrderUptoRow.holds Try.pinned (OpenSpec.upto fnExactSuccessionOrderSpec)

/-- 'laws.FnExactHeirOf', WHERE WHAT IT READS IS OF BULK AT MOST 1048576: true; the input reads as it did. -/
def fnExactHeirOfUptoRow : OpenClaim := { program := "ytbiagkccgijdlaa", sum := "6830718140334bbd3b6cee06b179a6350e920aee671c3d74e7771009a605bbfa", func := "loop.example/g03221/laws.FnExactHeirOf", spec := "fnExactHeirOf", unfollowed := true, recurses := true, plainKeys := false, apart := false, narrowed := true }
def FnExactHeirOfUptoSaid : Prop := fnExactHeirOfUptoRow.holds Try.pinned (OpenSpec.upto fnExactHeirOfSpec)

/-- 'laws.FnSiblings', WHERE WHAT IT READS IS OF BULK AT MOST 1048576: true; the input reads as it did. -/
def fnSiblingsUptoRow : OpenClaim := { program := "ytbiagkccgijdlaa", sum := "6830718140334bbd3b6cee06b179a6350e920aee671c3d74e7771009a605bbfa", func := "loop.example/g03221/laws.FnSiblings", spec := "fnSiblings", unfollowed := true, recurses := true, plainKeys := false, apart := false, narrowed := true }
def FnSiblingsUptoSaid : Prop := fnSiblingsUptoRow.holds Try.pinned (OpenSpec.upto fnSiblingsSpec)

/-- 'laws.FnLines', WHERE WHAT IT READS IS OF BULK AT MOST 1048576: true; the input reads as it did. -/
def fnLinesUptoRow : OpenClaim := { program := "ytbiagkccgijdlaa", sum := "6830718140334bbd3b6cee06b179a6350e920aee671c3d74e7771009a605bbfa", func := "loop.example/g03221/laws.FnLines", spec := "fnLines", unfollowed := true, recurses := true, plainKeys := false, apart := false, narrowed := true }
def FnLinesUptoSaid : Prop := fnLinesUptoRow.holds Try.pinned (OpenSpec.upto fnLinesSpec)

end Rows
end Go.Proofs.Ytbiagkccgijdlaa
