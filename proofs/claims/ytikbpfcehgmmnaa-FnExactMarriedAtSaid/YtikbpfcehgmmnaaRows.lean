/-
  No cell of these rows narrows 'for every input' (looked for: loops, veiled, ifaces, maps, wideKeys, modest, calm, conditions, laid).
  DERIVED. THE GIVEN ROWS OF THIS SEAT. 17 by the template 'for every input the law returns true; each argument reads behind the call as it read before'; 0 by the template 'total and deterministic' (their statements: YtikbpfcehgmmnaaTotals.lean).
  GIVEN WITH THE SEED: the statements are not yours to turn. If you find one false, say at which input.
  Laid BY PROGRAM, IN A SANDBOX (cutbox-rows.mjs): the forced cells as the released guide's own fill.sh prints them over the translation 917ef6cc1df2bbcb… (all of the seat's roots in one cut). By AI agents, Wed Nov 11 2026. No macro, syntax, notation, axiom, sorry.
-/
import Derived.Test.YtikbpfcehgmmnaaChecked
import GoSem.Claim
import GoSem.ClaimJoined
import GoSem.ClaimMapViews
import Derived.JoinedTies
import Derived.KernelRfl
namespace Go.Proofs.Ytikbpfcehgmmnaa
/- THE CELL 'sum', in the pinned program and in every row, IS THE sha256 OF THE DUMP (.gsa) THAT YtikbpfcehgmmnaaProg.lean LOADS. Nothing in Lean hashes anything: it is a label: what it is worth is what the hold of that sum in a sandbox is worth. -/
noncomputable def Try.pinned : Pinned := { name := "ytikbpfcehgmmnaa", sum := "917ef6cc1df2bbcb3708f69862c7923a3cdf1caadf129a5b1125c2bb41441a60", checked := Try.checked }
namespace Rows
def none {H : Type} : Left H := { results := [], args := [] }

/-- 'laws.FnSiblings': WHATEVER THE INPUT: true; the input reads as it did. -/
def fnSiblingsSpec : ChangeSpec := { name := "fnSiblings", fn := fun _ => fun
  | [d] => { results := [.lit (.bool true)], args := [d] }
  | _ => none }
def fnSiblingsRow : OpenClaim := { program := "ytikbpfcehgmmnaa", sum := "917ef6cc1df2bbcb3708f69862c7923a3cdf1caadf129a5b1125c2bb41441a60", func := "loop.example/g03221/laws.FnSiblings", spec := "fnSiblings", unfollowed := true, recurses := true, apart := false }
def FnSiblingsSaid : Prop := fnSiblingsRow.holds Try.pinned (OpenSpec.ofChange fnSiblingsSpec)

/-- ITS FALSE NEIGHBOUR: 'it returns false'. Refute it at one input. -/
def fnSiblingsWrong : ChangeSpec := { name := "fnSiblings", fn := fun _ => fun
  | [d] => { results := [.lit (.bool false)], args := [d] }
  | _ => none }
def FnSiblingsWrongFalsely : Prop := fnSiblingsRow.holds Try.pinned (OpenSpec.ofChange fnSiblingsWrong)

/-- 'laws.FnExactIsName': WHATEVER THE INPUT: true; the input reads as it did. -/
def fnExactIsNameSpec : ChangeSpec := { name := "fnExactIsName", fn := fun _ => fun
  | [d] => { results := [.lit (.bool true)], args := [d] }
  | _ => none }
def fnExactIsNameRow : OpenClaim := { program := "ytikbpfcehgmmnaa", sum := "917ef6cc1df2bbcb3708f69862c7923a3cdf1caadf129a5b1125c2bb41441a60", func := "loop.example/g03221/laws.FnExactIsName", spec := "fnExactIsName", apart := false }
def FnExactIsNameSaid : Prop := fnExactIsNameRow.holds Try.pinned (OpenSpec.ofChange fnExactIsNameSpec)

/-- ITS FALSE NEIGHBOUR: 'it returns false'. Refute it at one input. -/
def fnExactIsNameWrong : ChangeSpec := { name := "fnExactIsName", fn := fun _ => fun
  | [d] => { results := [.lit (.bool false)], args := [d] }
  | _ => none }
def FnExactIsNameWrongFalsely : Prop := fnExactIsNameRow.holds Try.pinned (OpenSpec.ofChange fnExactIsNameWrong)

/-- 'laws.FnExactIsFamily': WHATEVER THE INPUT: true; the input reads as it did. -/
def fnExactIsFamilySpec : ChangeSpec := { name := "fnExactIsFamily", fn := fun _ => fun
  | [d] => { results := [.lit (.bool true)], args := [d] }
  | _ => none }
def fnExactIsFamilyRow : OpenClaim := { program := "ytikbpfcehgmmnaa", sum := "917ef6cc1df2bbcb3708f69862c7923a3cdf1caadf129a5b1125c2bb41441a60", func := "loop.example/g03221/laws.FnExactIsFamily", spec := "fnExactIsFamily", unfollowed := true, recurses := true, apart := false }
def FnExactIsFamilySaid : Prop := fnExactIsFamilyRow.holds Try.pinned (OpenSpec.ofChange fnExactIsFamilySpec)

/-- ITS FALSE NEIGHBOUR: 'it returns false'. Refute it at one input. -/
def fnExactIsFamilyWrong : ChangeSpec := { name := "fnExactIsFamily", fn := fun _ => fun
  | [d] => { results := [.lit (.bool false)], args := [d] }
  | _ => none }
def FnExactIsFamilyWrongFalsely : Prop := fnExactIsFamilyRow.holds Try.pinned (OpenSpec.ofChange fnExactIsFamilyWrong)

/-- 'laws.FnExactEqualFamilies': WHATEVER THE INPUT: true; the input reads as it did. -/
def fnExactEqualFamiliesSpec : ChangeSpec := { name := "fnExactEqualFamilies", fn := fun _ => fun
  | [d1, d2] => { results := [.lit (.bool true)], args := [d1, d2] }
  | _ => none }
def fnExactEqualFamiliesRow : OpenClaim := { program := "ytikbpfcehgmmnaa", sum := "917ef6cc1df2bbcb3708f69862c7923a3cdf1caadf129a5b1125c2bb41441a60", func := "loop.example/g03221/laws.FnExactEqualFamilies", spec := "fnExactEqualFamilies", apart := false }
def FnExactEqualFamiliesSaid : Prop := fnExactEqualFamiliesRow.holds Try.pinned (OpenSpec.ofChange fnExactEqualFamiliesSpec)

/-- ITS FALSE NEIGHBOUR: 'it returns false'. Refute it at one input. -/
def fnExactEqualFamiliesWrong : ChangeSpec := { name := "fnExactEqualFamilies", fn := fun _ => fun
  | [d1, d2] => { results := [.lit (.bool false)], args := [d1, d2] }
  | _ => none }
def FnExactEqualFamiliesWrongFalsely : Prop := fnExactEqualFamiliesRow.holds Try.pinned (OpenSpec.ofChange fnExactEqualFamiliesWrong)

/-- 'laws.FnExactFindPerson': WHATEVER THE INPUT: true; the input reads as it did. -/
def fnExactFindPersonSpec : ChangeSpec := { name := "fnExactFindPerson", fn := fun _ => fun
  | [d1, d2] => { results := [.lit (.bool true)], args := [d1, d2] }
  | _ => none }
def fnExactFindPersonRow : OpenClaim := { program := "ytikbpfcehgmmnaa", sum := "917ef6cc1df2bbcb3708f69862c7923a3cdf1caadf129a5b1125c2bb41441a60", func := "loop.example/g03221/laws.FnExactFindPerson", spec := "fnExactFindPerson", unfollowed := true, recurses := true, apart := false }
def FnExactFindPersonSaid : Prop := fnExactFindPersonRow.holds Try.pinned (OpenSpec.ofChange fnExactFindPersonSpec)

/-- ITS FALSE NEIGHBOUR: 'it returns false'. Refute it at one input. -/
def fnExactFindPersonWrong : ChangeSpec := { name := "fnExactFindPerson", fn := fun _ => fun
  | [d1, d2] => { results := [.lit (.bool false)], args := [d1, d2] }
  | _ => none }
def FnExactFindPersonWrongFalsely : Prop := fnExactFindPersonRow.holds Try.pinned (OpenSpec.ofChange fnExactFindPersonWrong)

/-- 'laws.FnExactDepthOf': WHATEVER THE INPUT: true; the input reads as it did. -/
def fnExactDepthOfSpec : ChangeSpec := { name := "fnExactDepthOf", fn := fun _ => fun
  | [d1, d2] => { results := [.lit (.bool true)], args := [d1, d2] }
  | _ => none }
def fnExactDepthOfRow : OpenClaim := { program := "ytikbpfcehgmmnaa", sum := "917ef6cc1df2bbcb3708f69862c7923a3cdf1caadf129a5b1125c2bb41441a60", func := "loop.example/g03221/laws.FnExactDepthOf", spec := "fnExactDepthOf", unfollowed := true, recurses := true, apart := false }
def FnExactDepthOfSaid : Prop := fnExactDepthOfRow.holds Try.pinned (OpenSpec.ofChange fnExactDepthOfSpec)

/-- ITS FALSE NEIGHBOUR: 'it returns false'. Refute it at one input. -/
def fnExactDepthOfWrong : ChangeSpec := { name := "fnExactDepthOf", fn := fun _ => fun
  | [d1, d2] => { results := [.lit (.bool false)], args := [d1, d2] }
  | _ => none }
def FnExactDepthOfWrongFalsely : Prop := fnExactDepthOfRow.holds Try.pinned (OpenSpec.ofChange fnExactDepthOfWrong)

/-- 'laws.FnExactParentsOf': WHATEVER THE INPUT: true; the input reads as it did. -/
def fnExactParentsOfSpec : ChangeSpec := { name := "fnExactParentsOf", fn := fun _ => fun
  | [d1, d2] => { results := [.lit (.bool true)], args := [d1, d2] }
  | _ => none }
def fnExactParentsOfRow : OpenClaim := { program := "ytikbpfcehgmmnaa", sum := "917ef6cc1df2bbcb3708f69862c7923a3cdf1caadf129a5b1125c2bb41441a60", func := "loop.example/g03221/laws.FnExactParentsOf", spec := "fnExactParentsOf", unfollowed := true, recurses := true, apart := false }
def FnExactParentsOfSaid : Prop := fnExactParentsOfRow.holds Try.pinned (OpenSpec.ofChange fnExactParentsOfSpec)

/-- ITS FALSE NEIGHBOUR: 'it returns false'. Refute it at one input. -/
def fnExactParentsOfWrong : ChangeSpec := { name := "fnExactParentsOf", fn := fun _ => fun
  | [d1, d2] => { results := [.lit (.bool false)], args := [d1, d2] }
  | _ => none }
def FnExactParentsOfWrongFalsely : Prop := fnExactParentsOfRow.holds Try.pinned (OpenSpec.ofChange fnExactParentsOfWrong)

/-- 'laws.FnExactIsElder': WHATEVER THE INPUT: true; the input reads as it did. -/
def fnExactIsElderSpec : ChangeSpec := { name := "fnExactIsElder", fn := fun _ => fun
  | [d1, d2, d3] => { results := [.lit (.bool true)], args := [d1, d2, d3] }
  | _ => none }
def fnExactIsElderRow : OpenClaim := { program := "ytikbpfcehgmmnaa", sum := "917ef6cc1df2bbcb3708f69862c7923a3cdf1caadf129a5b1125c2bb41441a60", func := "loop.example/g03221/laws.FnExactIsElder", spec := "fnExactIsElder", unfollowed := true, recurses := true, apart := false }
def FnExactIsElderSaid : Prop := fnExactIsElderRow.holds Try.pinned (OpenSpec.ofChange fnExactIsElderSpec)

/-- ITS FALSE NEIGHBOUR: 'it returns false'. Refute it at one input. -/
def fnExactIsElderWrong : ChangeSpec := { name := "fnExactIsElder", fn := fun _ => fun
  | [d1, d2, d3] => { results := [.lit (.bool false)], args := [d1, d2, d3] }
  | _ => none }
def FnExactIsElderWrongFalsely : Prop := fnExactIsElderRow.holds Try.pinned (OpenSpec.ofChange fnExactIsElderWrong)

/-- 'laws.FnExactChildrenOf': WHATEVER THE INPUT: true; the input reads as it did. -/
def fnExactChildrenOfSpec : ChangeSpec := { name := "fnExactChildrenOf", fn := fun _ => fun
  | [d1, d2] => { results := [.lit (.bool true)], args := [d1, d2] }
  | _ => none }
def fnExactChildrenOfRow : OpenClaim := { program := "ytikbpfcehgmmnaa", sum := "917ef6cc1df2bbcb3708f69862c7923a3cdf1caadf129a5b1125c2bb41441a60", func := "loop.example/g03221/laws.FnExactChildrenOf", spec := "fnExactChildrenOf", unfollowed := true, recurses := true, apart := false }
def FnExactChildrenOfSaid : Prop := fnExactChildrenOfRow.holds Try.pinned (OpenSpec.ofChange fnExactChildrenOfSpec)

/-- ITS FALSE NEIGHBOUR: 'it returns false'. Refute it at one input. -/
def fnExactChildrenOfWrong : ChangeSpec := { name := "fnExactChildrenOf", fn := fun _ => fun
  | [d1, d2] => { results := [.lit (.bool false)], args := [d1, d2] }
  | _ => none }
def FnExactChildrenOfWrongFalsely : Prop := fnExactChildrenOfRow.holds Try.pinned (OpenSpec.ofChange fnExactChildrenOfWrong)

/-- 'laws.FnExactFullSiblings': WHATEVER THE INPUT: true; the input reads as it did. -/
def fnExactFullSiblingsSpec : ChangeSpec := { name := "fnExactFullSiblings", fn := fun _ => fun
  | [d1, d2] => { results := [.lit (.bool true)], args := [d1, d2] }
  | _ => none }
def fnExactFullSiblingsRow : OpenClaim := { program := "ytikbpfcehgmmnaa", sum := "917ef6cc1df2bbcb3708f69862c7923a3cdf1caadf129a5b1125c2bb41441a60", func := "loop.example/g03221/laws.FnExactFullSiblings", spec := "fnExactFullSiblings", unfollowed := true, recurses := true, apart := false }
def FnExactFullSiblingsSaid : Prop := fnExactFullSiblingsRow.holds Try.pinned (OpenSpec.ofChange fnExactFullSiblingsSpec)

/-- ITS FALSE NEIGHBOUR: 'it returns false'. Refute it at one input. -/
def fnExactFullSiblingsWrong : ChangeSpec := { name := "fnExactFullSiblings", fn := fun _ => fun
  | [d1, d2] => { results := [.lit (.bool false)], args := [d1, d2] }
  | _ => none }
def FnExactFullSiblingsWrongFalsely : Prop := fnExactFullSiblingsRow.holds Try.pinned (OpenSpec.ofChange fnExactFullSiblingsWrong)

/-- 'laws.FnExactHalfSiblings': WHATEVER THE INPUT: true; the input reads as it did. -/
def fnExactHalfSiblingsSpec : ChangeSpec := { name := "fnExactHalfSiblings", fn := fun _ => fun
  | [d1, d2] => { results := [.lit (.bool true)], args := [d1, d2] }
  | _ => none }
def fnExactHalfSiblingsRow : OpenClaim := { program := "ytikbpfcehgmmnaa", sum := "917ef6cc1df2bbcb3708f69862c7923a3cdf1caadf129a5b1125c2bb41441a60", func := "loop.example/g03221/laws.FnExactHalfSiblings", spec := "fnExactHalfSiblings", unfollowed := true, recurses := true, apart := false }
def FnExactHalfSiblingsSaid : Prop := fnExactHalfSiblingsRow.holds Try.pinned (OpenSpec.ofChange fnExactHalfSiblingsSpec)

/-- ITS FALSE NEIGHBOUR: 'it returns false'. Refute it at one input. -/
def fnExactHalfSiblingsWrong : ChangeSpec := { name := "fnExactHalfSiblings", fn := fun _ => fun
  | [d1, d2] => { results := [.lit (.bool false)], args := [d1, d2] }
  | _ => none }
def FnExactHalfSiblingsWrongFalsely : Prop := fnExactHalfSiblingsRow.holds Try.pinned (OpenSpec.ofChange fnExactHalfSiblingsWrong)

/-- 'laws.FnExactPartnersOf': WHATEVER THE INPUT: true; the input reads as it did. -/
def fnExactPartnersOfSpec : ChangeSpec := { name := "fnExactPartnersOf", fn := fun _ => fun
  | [d1, d2] => { results := [.lit (.bool true)], args := [d1, d2] }
  | _ => none }
def fnExactPartnersOfRow : OpenClaim := { program := "ytikbpfcehgmmnaa", sum := "917ef6cc1df2bbcb3708f69862c7923a3cdf1caadf129a5b1125c2bb41441a60", func := "loop.example/g03221/laws.FnExactPartnersOf", spec := "fnExactPartnersOf", unfollowed := true, recurses := true, apart := false }
def FnExactPartnersOfSaid : Prop := fnExactPartnersOfRow.holds Try.pinned (OpenSpec.ofChange fnExactPartnersOfSpec)

/-- ITS FALSE NEIGHBOUR: 'it returns false'. Refute it at one input. -/
def fnExactPartnersOfWrong : ChangeSpec := { name := "fnExactPartnersOf", fn := fun _ => fun
  | [d1, d2] => { results := [.lit (.bool false)], args := [d1, d2] }
  | _ => none }
def FnExactPartnersOfWrongFalsely : Prop := fnExactPartnersOfRow.holds Try.pinned (OpenSpec.ofChange fnExactPartnersOfWrong)

/-- 'laws.FnExactUnionEnd': WHATEVER THE INPUT: true; the input reads as it did. -/
def fnExactUnionEndSpec : ChangeSpec := { name := "fnExactUnionEnd", fn := fun _ => fun
  | [d1, d2] => { results := [.lit (.bool true)], args := [d1, d2] }
  | _ => none }
def fnExactUnionEndRow : OpenClaim := { program := "ytikbpfcehgmmnaa", sum := "917ef6cc1df2bbcb3708f69862c7923a3cdf1caadf129a5b1125c2bb41441a60", func := "loop.example/g03221/laws.FnExactUnionEnd", spec := "fnExactUnionEnd", unfollowed := true, recurses := true, apart := false }
def FnExactUnionEndSaid : Prop := fnExactUnionEndRow.holds Try.pinned (OpenSpec.ofChange fnExactUnionEndSpec)

/-- ITS FALSE NEIGHBOUR: 'it returns false'. Refute it at one input. -/
def fnExactUnionEndWrong : ChangeSpec := { name := "fnExactUnionEnd", fn := fun _ => fun
  | [d1, d2] => { results := [.lit (.bool false)], args := [d1, d2] }
  | _ => none }
def FnExactUnionEndWrongFalsely : Prop := fnExactUnionEndRow.holds Try.pinned (OpenSpec.ofChange fnExactUnionEndWrong)

/-- 'laws.FnExactIsAlive': WHATEVER THE INPUT: true; the input reads as it did. -/
def fnExactIsAliveSpec : ChangeSpec := { name := "fnExactIsAlive", fn := fun _ => fun
  | [d1, d2, d3] => { results := [.lit (.bool true)], args := [d1, d2, d3] }
  | _ => none }
def fnExactIsAliveRow : OpenClaim := { program := "ytikbpfcehgmmnaa", sum := "917ef6cc1df2bbcb3708f69862c7923a3cdf1caadf129a5b1125c2bb41441a60", func := "loop.example/g03221/laws.FnExactIsAlive", spec := "fnExactIsAlive", unfollowed := true, recurses := true, apart := false }
def FnExactIsAliveSaid : Prop := fnExactIsAliveRow.holds Try.pinned (OpenSpec.ofChange fnExactIsAliveSpec)

/-- ITS FALSE NEIGHBOUR: 'it returns false'. Refute it at one input. -/
def fnExactIsAliveWrong : ChangeSpec := { name := "fnExactIsAlive", fn := fun _ => fun
  | [d1, d2, d3] => { results := [.lit (.bool false)], args := [d1, d2, d3] }
  | _ => none }
def FnExactIsAliveWrongFalsely : Prop := fnExactIsAliveRow.holds Try.pinned (OpenSpec.ofChange fnExactIsAliveWrong)

/-- 'laws.FnExactMarriedAt': WHATEVER THE INPUT: true; the input reads as it did. -/
def fnExactMarriedAtSpec : ChangeSpec := { name := "fnExactMarriedAt", fn := fun _ => fun
  | [d1, d2, d3] => { results := [.lit (.bool true)], args := [d1, d2, d3] }
  | _ => none }
def fnExactMarriedAtRow : OpenClaim := { program := "ytikbpfcehgmmnaa", sum := "917ef6cc1df2bbcb3708f69862c7923a3cdf1caadf129a5b1125c2bb41441a60", func := "loop.example/g03221/laws.FnExactMarriedAt", spec := "fnExactMarriedAt", unfollowed := true, recurses := true, apart := false }
def FnExactMarriedAtSaid : Prop := fnExactMarriedAtRow.holds Try.pinned (OpenSpec.ofChange fnExactMarriedAtSpec)

/-- ITS FALSE NEIGHBOUR: 'it returns false'. Refute it at one input. -/
def fnExactMarriedAtWrong : ChangeSpec := { name := "fnExactMarriedAt", fn := fun _ => fun
  | [d1, d2, d3] => { results := [.lit (.bool false)], args := [d1, d2, d3] }
  | _ => none }
def FnExactMarriedAtWrongFalsely : Prop := fnExactMarriedAtRow.holds Try.pinned (OpenSpec.ofChange fnExactMarriedAtWrong)

/-- 'laws.FnExactRenamePeople': WHATEVER THE INPUT: true; the input reads as it did. -/
def fnExactRenamePeopleSpec : ChangeSpec := { name := "fnExactRenamePeople", fn := fun _ => fun
  | [d1, d2] => { results := [.lit (.bool true)], args := [d1, d2] }
  | _ => none }
def fnExactRenamePeopleRow : OpenClaim := { program := "ytikbpfcehgmmnaa", sum := "917ef6cc1df2bbcb3708f69862c7923a3cdf1caadf129a5b1125c2bb41441a60", func := "loop.example/g03221/laws.FnExactRenamePeople", spec := "fnExactRenamePeople", unfollowed := true, recurses := true, apart := false }
def FnExactRenamePeopleSaid : Prop := fnExactRenamePeopleRow.holds Try.pinned (OpenSpec.ofChange fnExactRenamePeopleSpec)

/-- ITS FALSE NEIGHBOUR: 'it returns false'. Refute it at one input. -/
def fnExactRenamePeopleWrong : ChangeSpec := { name := "fnExactRenamePeople", fn := fun _ => fun
  | [d1, d2] => { results := [.lit (.bool false)], args := [d1, d2] }
  | _ => none }
def FnExactRenamePeopleWrongFalsely : Prop := fnExactRenamePeopleRow.holds Try.pinned (OpenSpec.ofChange fnExactRenamePeopleWrong)

/-- 'laws.FnExactPermutePeople': WHATEVER THE INPUT: true; the input reads as it did. -/
def fnExactPermutePeopleSpec : ChangeSpec := { name := "fnExactPermutePeople", fn := fun _ => fun
  | [d1, d2] => { results := [.lit (.bool true)], args := [d1, d2] }
  | _ => none }
def fnExactPermutePeopleRow : OpenClaim := { program := "ytikbpfcehgmmnaa", sum := "917ef6cc1df2bbcb3708f69862c7923a3cdf1caadf129a5b1125c2bb41441a60", func := "loop.example/g03221/laws.FnExactPermutePeople", spec := "fnExactPermutePeople", unfollowed := true, recurses := true, apart := false }
def FnExactPermutePeopleSaid : Prop := fnExactPermutePeopleRow.holds Try.pinned (OpenSpec.ofChange fnExactPermutePeopleSpec)

/-- ITS FALSE NEIGHBOUR: 'it returns false'. Refute it at one input. -/
def fnExactPermutePeopleWrong : ChangeSpec := { name := "fnExactPermutePeople", fn := fun _ => fun
  | [d1, d2] => { results := [.lit (.bool false)], args := [d1, d2] }
  | _ => none }
def FnExactPermutePeopleWrongFalsely : Prop := fnExactPermutePeopleRow.holds Try.pinned (OpenSpec.ofChange fnExactPermutePeopleWrong)

/- THE SECOND FORM. 'bulk': how many values and letters a reading holds, each counted each time it is reached (what is shared counts as often as it is met; a slice's spare places count too). A statement '..UptoSaid' is the law's where the arguments, and the package variables that the reading takes, are together of bulk at most 1048576: NARROWER than '..Said'. Prove '..Said' where nothing that the law and all that it calls make is longer than what came in: it says more and counts as full. Else prove '..UptoSaid'. A law counts once. -/
mutual
def uptoBulk {H : Type} : DataW H → Nat
  | .lit (.string bytes) => bytes.length + 1
  | .lit _ => 1
  | .nil => 1
  | .ptr d => uptoBulk d + 1
  | .slice elems spare => uptoBulkAll elems + uptoBulkAll spare + 1
  | .agg parts => uptoBulkAll parts + 1
  | .iface _ d => uptoBulk d + 1
  | .map entries => uptoBulkEntries entries + 1
  | .held _ => 1
def uptoBulkAll {H : Type} : List (DataW H) → Nat
  | [] => 0
  | d :: r => uptoBulk d + uptoBulkAll r
def uptoBulkEntries {H : Type} : List (Lit × DataW H) → Nat
  | [] => 0
  | x :: r => uptoBulkEntry x + uptoBulkEntries r
def uptoBulkEntry {H : Type} : Lit × DataW H → Nat
  | (.string bytes, d) => bytes.length + uptoBulk d + 1
  | (_, d) => uptoBulk d + 1
 end
def uptoSmall : (H : Type) → List (DataW H) → Bool := fun _ ds => decide (uptoBulkAll ds ≤ 1048576)
def OpenSpec.upto (s : _root_.Go.ChangeSpec) : _root_.Go.OpenSpec := { _root_.Go.OpenSpec.ofChange s with cond := some uptoSmall }

/-- 'laws.FnSiblings', WHERE WHAT IT READS IS OF BULK AT MOST 1048576: true; the input reads as it did. -/
def fnSiblingsUptoRow : OpenClaim := { program := "ytikbpfcehgmmnaa", sum := "917ef6cc1df2bbcb3708f69862c7923a3cdf1caadf129a5b1125c2bb41441a60", func := "loop.example/g03221/laws.FnSiblings", spec := "fnSiblings", unfollowed := true, recurses := true, apart := false, narrowed := true }
def FnSiblingsUptoSaid : Prop := fnSiblingsUptoRow.holds Try.pinned (OpenSpec.upto fnSiblingsSpec)

/-- 'laws.FnExactIsName', WHERE WHAT IT READS IS OF BULK AT MOST 1048576: true; the input reads as it did. -/
def fnExactIsNameUptoRow : OpenClaim := { program := "ytikbpfcehgmmnaa", sum := "917ef6cc1df2bbcb3708f69862c7923a3cdf1caadf129a5b1125c2bb41441a60", func := "loop.example/g03221/laws.FnExactIsName", spec := "fnExactIsName", apart := false, narrowed := true }
def FnExactIsNameUptoSaid : Prop := fnExactIsNameUptoRow.holds Try.pinned (OpenSpec.upto fnExactIsNameSpec)

/-- 'laws.FnExactIsFamily', WHERE WHAT IT READS IS OF BULK AT MOST 1048576: true; the input reads as it did. -/
def fnExactIsFamilyUptoRow : OpenClaim := { program := "ytikbpfcehgmmnaa", sum := "917ef6cc1df2bbcb3708f69862c7923a3cdf1caadf129a5b1125c2bb41441a60", func := "loop.example/g03221/laws.FnExactIsFamily", spec := "fnExactIsFamily", unfollowed := true, recurses := true, apart := false, narrowed := true }
def FnExactIsFamilyUptoSaid : Prop := fnExactIsFamilyUptoRow.holds Try.pinned (OpenSpec.upto fnExactIsFamilySpec)

/-- 'laws.FnExactEqualFamilies', WHERE WHAT IT READS IS OF BULK AT MOST 1048576: true; the input reads as it did. -/
def fnExactEqualFamiliesUptoRow : OpenClaim := { program := "ytikbpfcehgmmnaa", sum := "917ef6cc1df2bbcb3708f69862c7923a3cdf1caadf129a5b1125c2bb41441a60", func := "loop.example/g03221/laws.FnExactEqualFamilies", spec := "fnExactEqualFamilies", apart := false, narrowed := true }
def FnExactEqualFamiliesUptoSaid : Prop := fnExactEqualFamiliesUptoRow.holds Try.pinned (OpenSpec.upto fnExactEqualFamiliesSpec)

/-- 'laws.FnExactFindPerson', WHERE WHAT IT READS IS OF BULK AT MOST 1048576: true; the input reads as it did. -/
def fnExactFindPersonUptoRow : OpenClaim := { program := "ytikbpfcehgmmnaa", sum := "917ef6cc1df2bbcb3708f69862c7923a3cdf1caadf129a5b1125c2bb41441a60", func := "loop.example/g03221/laws.FnExactFindPerson", spec := "fnExactFindPerson", unfollowed := true, recurses := true, apart := false, narrowed := true }
def FnExactFindPersonUptoSaid : Prop := fnExactFindPersonUptoRow.holds Try.pinned (OpenSpec.upto fnExactFindPersonSpec)

/-- 'laws.FnExactDepthOf', WHERE WHAT IT READS IS OF BULK AT MOST 1048576: true; the input reads as it did. -/
def fnExactDepthOfUptoRow : OpenClaim := { program := "ytikbpfcehgmmnaa", sum := "917ef6cc1df2bbcb3708f69862c7923a3cdf1caadf129a5b1125c2bb41441a60", func := "loop.example/g03221/laws.FnExactDepthOf", spec := "fnExactDepthOf", unfollowed := true, recurses := true, apart := false, narrowed := true }
def FnExactDepthOfUptoSaid : Prop := fnExactDepthOfUptoRow.holds Try.pinned (OpenSpec.upto fnExactDepthOfSpec)

/-- 'laws.FnExactParentsOf', WHERE WHAT IT READS IS OF BULK AT MOST 1048576: true; the input reads as it did. -/
def fnExactParentsOfUptoRow : OpenClaim := { program := "ytikbpfcehgmmnaa", sum := "917ef6cc1df2bbcb3708f69862c7923a3cdf1caadf129a5b1125c2bb41441a60", func := "loop.example/g03221/laws.FnExactParentsOf", spec := "fnExactParentsOf", unfollowed := true, recurses := true, apart := false, narrowed := true }
def FnExactParentsOfUptoSaid : Prop := fnExactParentsOfUptoRow.holds Try.pinned (OpenSpec.upto fnExactParentsOfSpec)

/-- 'laws.FnExactIsElder', WHERE WHAT IT READS IS OF BULK AT MOST 1048576: true; the input reads as it did. -/
def fnExactIsElderUptoRow : OpenClaim := { program := "ytikbpfcehgmmnaa", sum := "917ef6cc1df2bbcb3708f69862c7923a3cdf1caadf129a5b1125c2bb41441a60", func := "loop.example/g03221/laws.FnExactIsElder", spec := "fnExactIsElder", unfollowed := true, recurses := true, apart := false, narrowed := true }
def FnExactIsElderUptoSaid : Prop := fnExactIsElderUptoRow.holds Try.pinned (OpenSpec.upto fnExactIsElderSpec)

/-- 'laws.FnExactChildrenOf', WHERE WHAT IT READS IS OF BULK AT MOST 1048576: true; the input reads as it did. -/
def fnExactChildrenOfUptoRow : OpenClaim := { program := "ytikbpfcehgmmnaa", sum := "917ef6cc1df2bbcb3708f69862c7923a3cdf1caadf129a5b1125c2bb41441a60", func := "loop.example/g03221/laws.FnExactChildrenOf", spec := "fnExactChildrenOf", unfollowed := true, recurses := true, apart := false, narrowed := true }
def FnExactChildrenOfUptoSaid : Prop := fnExactChildrenOfUptoRow.holds Try.pinned (OpenSpec.upto fnExactChildrenOfSpec)

/-- 'laws.FnExactFullSiblings', WHERE WHAT IT READS IS OF BULK AT MOST 1048576: true; the input reads as it did. -/
def fnExactFullSiblingsUptoRow : OpenClaim := { program := "ytikbpfcehgmmnaa", sum := "917ef6cc1df2bbcb3708f69862c7923a3cdf1caadf129a5b1125c2bb41441a60", func := "loop.example/g03221/laws.FnExactFullSiblings", spec := "fnExactFullSiblings", unfollowed := true, recurses := true, apart := false, narrowed := true }
def FnExactFullSiblingsUptoSaid : Prop := fnExactFullSiblingsUptoRow.holds Try.pinned (OpenSpec.upto fnExactFullSiblingsSpec)

/-- 'laws.FnExactHalfSiblings', WHERE WHAT IT READS IS OF BULK AT MOST 1048576: true; the input reads as it did. -/
def fnExactHalfSiblingsUptoRow : OpenClaim := { program := "ytikbpfcehgmmnaa", sum := "917ef6cc1df2bbcb3708f69862c7923a3cdf1caadf129a5b1125c2bb41441a60", func := "loop.example/g03221/laws.FnExactHalfSiblings", spec := "fnExactHalfSiblings", unfollowed := true, recurses := true, apart := false, narrowed := true }
def FnExactHalfSiblingsUptoSaid : Prop := fnExactHalfSiblingsUptoRow.holds Try.pinned (OpenSpec.upto fnExactHalfSiblingsSpec)

/-- 'laws.FnExactPartnersOf', WHERE WHAT IT READS IS OF BULK AT MOST 1048576: true; the input reads as it did. -/
def fnExactPartnersOfUptoRow : OpenClaim := { program := "ytikbpfcehgmmnaa", sum := "917ef6cc1df2bbcb3708f69862c7923a3cdf1caadf129a5b1125c2bb41441a60", func := "loop.example/g03221/laws.FnExactPartnersOf", spec := "fnExactPartnersOf", unfollowed := true, recurses := true, apart := false, narrowed := true }
def FnExactPartnersOfUptoSaid : Prop := fnExactPartnersOfUptoRow.holds Try.pinned (OpenSpec.upto fnExactPartnersOfSpec)

/-- 'laws.FnExactUnionEnd', WHERE WHAT IT READS IS OF BULK AT MOST 1048576: true; the input reads as it did. -/
def fnExactUnionEndUptoRow : OpenClaim := { program := "ytikbpfcehgmmnaa", sum := "917ef6cc1df2bbcb3708f69862c7923a3cdf1caadf129a5b1125c2bb41441a60", func := "loop.example/g03221/laws.FnExactUnionEnd", spec := "fnExactUnionEnd", unfollowed := true, recurses := true, apart := false, narrowed := true }
def FnExactUnionEndUptoSaid : Prop := fnExactUnionEndUptoRow.holds Try.pinned (OpenSpec.upto fnExactUnionEndSpec)

/-- 'laws.FnExactIsAlive', WHERE WHAT IT READS IS OF BULK AT MOST 1048576: true; the input reads as it did. -/
def fnExactIsAliveUptoRow : OpenClaim := { program := "ytikbpfcehgmmnaa", sum := "917ef6cc1df2bbcb3708f69862c7923a3cdf1caadf129a5b1125c2bb41441a60", func := "loop.example/g03221/laws.FnExactIsAlive", spec := "fnExactIsAlive", unfollowed := true, recurses := true, apart := false, narrowed := true }
def FnExactIsAliveUptoSaid : Prop := fnExactIsAliveUptoRow.holds Try.pinned (OpenSpec.upto fnExactIsAliveSpec)

/-- 'laws.FnExactMarriedAt', WHERE WHAT IT READS IS OF BULK AT MOST 1048576: true; the input reads as it did. -/
def fnExactMarriedAtUptoRow : OpenClaim := { program := "ytikbpfcehgmmnaa", sum := "917ef6cc1df2bbcb3708f69862c7923a3cdf1caadf129a5b1125c2bb41441a60", func := "loop.example/g03221/laws.FnExactMarriedAt", spec := "fnExactMarriedAt", unfollowed := true, recurses := true, apart := false, narrowed := true }
def FnExactMarriedAtUptoSaid : Prop := fnExactMarriedAtUptoRow.holds Try.pinned (OpenSpec.upto fnExactMarriedAtSpec)

/-- 'laws.FnExactRenamePeople', WHERE WHAT IT READS IS OF BULK AT MOST 1048576: true; the input reads as it did. -/
def fnExactRenamePeopleUptoRow : OpenClaim := { program := "ytikbpfcehgmmnaa", sum := "917ef6cc1df2bbcb3708f69862c7923a3cdf1caadf129a5b1125c2bb41441a60", func := "loop.example/g03221/laws.FnExactRenamePeople", spec := "fnExactRenamePeople", unfollowed := true, recurses := true, apart := false, narrowed := true }
def FnExactRenamePeopleUptoSaid : Prop := fnExactRenamePeopleUptoRow.holds Try.pinned (OpenSpec.upto fnExactRenamePeopleSpec)

/-- 'laws.FnExactPermutePeople', WHERE WHAT IT READS IS OF BULK AT MOST 1048576: true; the input reads as it did. -/
def fnExactPermutePeopleUptoRow : OpenClaim := { program := "ytikbpfcehgmmnaa", sum := "917ef6cc1df2bbcb3708f69862c7923a3cdf1caadf129a5b1125c2bb41441a60", func := "loop.example/g03221/laws.FnExactPermutePeople", spec := "fnExactPermutePeople", unfollowed := true, recurses := true, apart := false, narrowed := true }
def FnExactPermutePeopleUptoSaid : Prop := fnExactPermutePeopleUptoRow.holds Try.pinned (OpenSpec.upto fnExactPermutePeopleSpec)

end Rows
end Go.Proofs.Ytikbpfcehgmmnaa
