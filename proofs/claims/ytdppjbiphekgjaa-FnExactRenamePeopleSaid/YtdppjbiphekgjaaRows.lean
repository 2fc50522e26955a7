/-
  No cell of these rows narrows 'for every input' (looked for: loops, veiled, ifaces, maps, wideKeys, modest, calm, conditions, laid).
  DERIVED. THE GIVEN ROWS OF THIS SEAT. 9 by the template 'for every input the law returns true; each argument reads behind the call as it read before'; 0 by the template 'total and deterministic' (their statements: YtdppjbiphekgjaaTotals.lean).
  GIVEN WITH THE SEED: the statements are not yours to turn. If you find one false, say at which input.
  Laid BY PROGRAM, IN A SANDBOX (cutbox-rows.mjs): the forced cells as the released guide's own fill.sh prints them over the translation b9c09d3e554d3a10… (all of the seat's roots in one cut). By AI agents, Wed Nov 11 2026. No macro, syntax, notation, axiom, sorry.
-/
import Derived.Test.YtdppjbiphekgjaaChecked
import GoSem.Claim
import GoSem.ClaimJoined
import GoSem.ClaimMapViews
import Derived.JoinedTies
import Derived.KernelRfl
namespace Go.Proofs.Ytdppjbiphekgjaa
/- THE CELL 'sum', in the pinned program and in every row, IS THE sha256 OF THE DUMP (.gsa) THAT YtdppjbiphekgjaaProg.lean LOADS. Nothing in Lean hashes anything: it is a label: what it is worth is what the hold of that sum in a sandbox is worth. -/
noncomputable def Try.pinned : Pinned := { name := "ytdppjbiphekgjaa", sum := "b9c09d3e554d3a10be6594988b6689558e814d4b054e760108dd46cb3672e4cb", checked := Try.checked }
namespace Rows
def none {H : Type} : Left H := { results := [], args := [] }

/-- 'laws.FnExactStepRelation': WHATEVER THE INPUT: true; the input reads as it did. -/
def fnExactStepRelationSpec : ChangeSpec := { name := "fnExactStepRelation", fn := fun _ => fun
  | [d1, d2] => { results := [.lit (.bool true)], args := [d1, d2] }
  | _ => none }
def fnExactStepRelationRow : OpenClaim := { program := "ytdppjbiphekgjaa", sum := "b9c09d3e554d3a10be6594988b6689558e814d4b054e760108dd46cb3672e4cb", func := "loop.example/g03221/laws.FnExactStepRelation", spec := "fnExactStepRelation", unfollowed := true, recurses := true, apart := false }
def FnExactStepRelationSaid : Prop := fnExactStepRelationRow.holds Try.pinned (OpenSpec.ofChange fnExactStepRelationSpec)

/-- ITS FALSE NEIGHBOUR: 'it returns false'. Refute it at one input. -/
def fnExactStepRelationWrong : ChangeSpec := { name := "fnExactStepRelation", fn := fun _ => fun
  | [d1, d2] => { results := [.lit (.bool false)], args := [d1, d2] }
  | _ => none }
def FnExactStepRelationWrongFalsely : Prop := fnExactStepRelationRow.holds Try.pinned (OpenSpec.ofChange fnExactStepRelationWrong)

/-- 'laws.FnExactTypesBetween': WHATEVER THE INPUT: true; the input reads as it did. -/
def fnExactTypesBetweenSpec : ChangeSpec := { name := "fnExactTypesBetween", fn := fun _ => fun
  | [d1, d2, d3, d4] => { results := [.lit (.bool true)], args := [d1, d2, d3, d4] }
  | _ => none }
def fnExactTypesBetweenRow : OpenClaim := { program := "ytdppjbiphekgjaa", sum := "b9c09d3e554d3a10be6594988b6689558e814d4b054e760108dd46cb3672e4cb", func := "loop.example/g03221/laws.FnExactTypesBetween", spec := "fnExactTypesBetween", unfollowed := true, recurses := true, apart := false }
def FnExactTypesBetweenSaid : Prop := fnExactTypesBetweenRow.holds Try.pinned (OpenSpec.ofChange fnExactTypesBetweenSpec)

/-- ITS FALSE NEIGHBOUR: 'it returns false'. Refute it at one input. -/
def fnExactTypesBetweenWrong : ChangeSpec := { name := "fnExactTypesBetween", fn := fun _ => fun
  | [d1, d2, d3, d4] => { results := [.lit (.bool false)], args := [d1, d2, d3, d4] }
  | _ => none }
def FnExactTypesBetweenWrongFalsely : Prop := fnExactTypesBetweenRow.holds Try.pinned (OpenSpec.ofChange fnExactTypesBetweenWrong)

/-- 'laws.FnExactShortestType': WHATEVER THE INPUT: true; the input reads as it did. -/
def fnExactShortestTypeSpec : ChangeSpec := { name := "fnExactShortestType", fn := fun _ => fun
  | [d1, d2, d3] => { results := [.lit (.bool true)], args := [d1, d2, d3] }
  | _ => none }
def fnExactShortestTypeRow : OpenClaim := { program := "ytdppjbiphekgjaa", sum := "b9c09d3e554d3a10be6594988b6689558e814d4b054e760108dd46cb3672e4cb", func := "loop.example/g03221/laws.FnExactShortestType", spec := "fnExactShortestType", unfollowed := true, recurses := true, apart := false }
def FnExactShortestTypeSaid : Prop := fnExactShortestTypeRow.holds Try.pinned (OpenSpec.ofChange fnExactShortestTypeSpec)

/-- ITS FALSE NEIGHBOUR: 'it returns false'. Refute it at one input. -/
def fnExactShortestTypeWrong : ChangeSpec := { name := "fnExactShortestType", fn := fun _ => fun
  | [d1, d2, d3] => { results := [.lit (.bool false)], args := [d1, d2, d3] }
  | _ => none }
def FnExactShortestTypeWrongFalsely : Prop := fnExactShortestTypeRow.holds Try.pinned (OpenSpec.ofChange fnExactShortestTypeWrong)

/-- 'laws.FnExactChildrenOf': WHATEVER THE INPUT: true; the input reads as it did. -/
def fnExactChildrenOfSpec : ChangeSpec := { name := "fnExactChildrenOf", fn := fun _ => fun
  | [d1, d2] => { results := [.lit (.bool true)], args := [d1, d2] }
  | _ => none }
def fnExactChildrenOfRow : OpenClaim := { program := "ytdppjbiphekgjaa", sum := "b9c09d3e554d3a10be6594988b6689558e814d4b054e760108dd46cb3672e4cb", func := "loop.example/g03221/laws.FnExactChildrenOf", spec := "fnExactChildrenOf", unfollowed := true, recurses := true, apart := false }
def FnExactChildrenOfSaid : Prop := fnExactChildrenOfRow.holds Try.pinned (OpenSpec.ofChange fnExactChildrenOfSpec)

/-- ITS FALSE NEIGHBOUR: 'it returns false'. Refute it at one input. -/
def fnExactChildrenOfWrong : ChangeSpec := { name := "fnExactChildrenOf", fn := fun _ => fun
  | [d1, d2] => { results := [.lit (.bool false)], args := [d1, d2] }
  | _ => none }
def FnExactChildrenOfWrongFalsely : Prop := fnExactChildrenOfRow.holds Try.pinned (OpenSpec.ofChange fnExactChildrenOfWrong)

/-- 'laws.FnExactFullSiblings': WHATEVER THE INPUT: true; the input reads as it did. -/
def fnExactFullSiblingsSpec : ChangeSpec := { name := "fnExactFullSiblings", fn := fun _ => fun
  | [d1, d2] => { results := [.lit (.bool true)], args := [d1, d2] }
  | _ => none }
def fnExactFullSiblingsRow : OpenClaim := { program := "ytdppjbiphekgjaa", sum := "b9c09d3e554d3a10be6594988b6689558e814d4b054e760108dd46cb3672e4cb", func := "loop.example/g03221/laws.FnExactFullSiblings", spec := "fnExactFullSiblings", unfollowed := true, recurses := true, apart := false }
def FnExactFullSiblingsSaid : Prop := fnExactFullSiblingsRow.holds Try.pinned (OpenSpec.ofChange fnExactFullSiblingsSpec)

/-- ITS FALSE NEIGHBOUR: 'it returns false'. Refute it at one input. -/
def fnExactFullSiblingsWrong : ChangeSpec := { name := "fnExactFullSiblings", fn := fun _ => fun
  | [d1, d2] => { results := [.lit (.bool false)], args := [d1, d2] }
  | _ => none }
def FnExactFullSiblingsWrongFalsely : Prop := fnExactFullSiblingsRow.holds Try.pinned (OpenSpec.ofChange fnExactFullSiblingsWrong)

/-- 'laws.FnExactHalfSiblings': WHATEVER THE INPUT: true; the input reads as it did. -/
def fnExactHalfSiblingsSpec : ChangeSpec := { name := "fnExactHalfSiblings", fn := fun _ => fun
  | [d1, d2] => { results := [.lit (.bool true)], args := [d1, d2] }
  | _ => none }
def fnExactHalfSiblingsRow : OpenClaim := { program := "ytdppjbiphekgjaa", sum := "b9c09d3e554d3a10be6594988b6689558e814d4b054e760108dd46cb3672e4cb", func := "loop.example/g03221/laws.FnExactHalfSiblings", spec := "fnExactHalfSiblings", unfollowed := true, recurses := true, apart := false }
def FnExactHalfSiblingsSaid : Prop := fnExactHalfSiblingsRow.holds Try.pinned (OpenSpec.ofChange fnExactHalfSiblingsSpec)

/-- ITS FALSE NEIGHBOUR: 'it returns false'. Refute it at one input. -/
def fnExactHalfSiblingsWrong : ChangeSpec := { name := "fnExactHalfSiblings", fn := fun _ => fun
  | [d1, d2] => { results := [.lit (.bool false)], args := [d1, d2] }
  | _ => none }
def FnExactHalfSiblingsWrongFalsely : Prop := fnExactHalfSiblingsRow.holds Try.pinned (OpenSpec.ofChange fnExactHalfSiblingsWrong)

/-- 'laws.FnExactRenamePeople': WHATEVER THE INPUT: true; the input reads as it did. -/
def fnExactRenamePeopleSpec : ChangeSpec := { name := "fnExactRenamePeople", fn := fun _ => fun
  | [d1, d2] => { results := [.lit (.bool true)], args := [d1, d2] }
  | _ => none }
def fnExactRenamePeopleRow : OpenClaim := { program := "ytdppjbiphekgjaa", sum := "b9c09d3e554d3a10be6594988b6689558e814d4b054e760108dd46cb3672e4cb", func := "loop.example/g03221/laws.FnExactRenamePeople", spec := "fnExactRenamePeople", unfollowed := true, recurses := true, apart := false }
def FnExactRenamePeopleSaid : Prop := fnExactRenamePeopleRow.holds Try.pinned (OpenSpec.ofChange fnExactRenamePeopleSpec)

/-- ITS FALSE NEIGHBOUR: 'it returns false'. Refute it at one input. -/
def fnExactRenamePeopleWrong : ChangeSpec := { name := "fnExactRenamePeople", fn := fun _ => fun
  | [d1, d2] => { results := [.lit (.bool false)], args := [d1, d2] }
  | _ => none }
def FnExactRenamePeopleWrongFalsely : Prop := fnExactRenamePeopleRow.holds Try.pinned (OpenSpec.ofChange fnExactRenamePeopleWrong)

/-- 'laws.FnExactPermutePeople': WHATEVER THE INPUT: true; the input reads as it did. -/
def fnExactPermutePeopleSpec : ChangeSpec := { name := "fnExactPermutePeople", fn := fun _ => fun
  | [d1, d2] => { results := [.lit (.bool true)], args := [d1, d2] }
  | _ => none }
def fnExactPermutePeopleRow : OpenClaim := { program := "ytdppjbiphekgjaa", sum := "b9c09d3e554d3a10be6594988b6689558e814d4b054e760108dd46cb3672e4cb", func := "loop.example/g03221/laws.FnExactPermutePeople", spec := "fnExactPermutePeople", unfollowed := true, recurses := true, apart := false }
def FnExactPermutePeopleSaid : Prop := fnExactPermutePeopleRow.holds Try.pinned (OpenSpec.ofChange fnExactPermutePeopleSpec)

/-- ITS FALSE NEIGHBOUR: 'it returns false'. Refute it at one input. -/
def fnExactPermutePeopleWrong : ChangeSpec := { name := "fnExactPermutePeople", fn := fun _ => fun
  | [d1, d2] => { results := [.lit (.bool false)], args := [d1, d2] }
  | _ => none }
def FnExactPermutePeopleWrongFalsely : Prop := fnExactPermutePeopleRow.holds Try.pinned (OpenSpec.ofChange fnExactPermutePeopleWrong)

/-- 'laws.FnSiblings': WHATEVER THE INPUT: true; the input reads as it did. -/
def fnSiblingsSpec : ChangeSpec := { name := "fnSiblings", fn := fun _ => fun
  | [d] => { results := [.lit (.bool true)], args := [d] }
  | _ => none }
def fnSiblingsRow : OpenClaim := { program := "ytdppjbiphekgjaa", sum := "b9c09d3e554d3a10be6594988b6689558e814d4b054e760108dd46cb3672e4cb", func := "loop.example/g03221/laws.FnSiblings", spec := "fnSiblings", unfollowed := true, recurses := true, apart := false }
def FnSiblingsSaid : Prop := fnSiblingsRow.holds Try.pinned (OpenSpec.ofChange fnSiblingsSpec)

/-- ITS FALSE NEIGHBOUR: 'it returns false'. Refute it at one input. -/
def fnSiblingsWrong : ChangeSpec := { name := "fnSiblings", fn := fun _ => fun
  | [d] => { results := [.lit (.bool false)], args := [d] }
  | _ => none }
def FnSiblingsWrongFalsely : Prop := fnSiblingsRow.holds Try.pinned (OpenSpec.ofChange fnSiblingsWrong)

/- THE SECOND FORM. 'bulk': how many values and letters a reading holds, each counted each time it is reached (what is shared counts as often as it is met; a slice's spare places count too). A statement '..UptoSaid' is the law's where the arguments, and the package variables that the reading takes, are together of bulk at most 1048576: NARROWER than '..Said'. Prove '..Said' where nothing that the law and all that it calls make is longer than what came in: it says more and counts as full. Else prove '..UptoSaid'. A law counts once. -/
mutual
def uptoBulk {H : Type} : DataW H → Nat
  | .lit (.string bytes) => bytes.length + 1
  | .lit _ => 1
  | .nil => 1
  | .ptr d => uptoBulk d + 1
  | .slice elems spare => uptoBulkAll elems + uptoBulkAll spare + 1
  | .agg parts => uptoBulkAll parts + 1
  | .iface _ d => uptoBulk d + 1
  | .map entries => uptoBulkEntries entries + 1
  | .held _ => 1
def uptoBulkAll {H : Type} : List (DataW H) → Nat
  | [] => 0
  | d :: r => uptoBulk d + uptoBulkAll r
def uptoBulkEntries {H : Type} : List (Lit × DataW H) → Nat
  | [] => 0
  | x :: r => uptoBulkEntry x + uptoBulkEntries r
def uptoBulkEntry {H : Type} : Lit × DataW H → Nat
  | (.string bytes, d) => bytes.length + uptoBulk d + 1
  | (_, d) => uptoBulk d + 1
 end
def uptoSmall : (H : Type) → List (DataW H) → Bool := fun _ ds => decide (uptoBulkAll ds ≤ 1048576)
def OpenSpec.upto (s : _root_.Go.ChangeSpec) : _root_.Go.OpenSpec := { _root_.Go.OpenSpec.ofChange s with cond := some uptoSmall }

/-- 'laws.FnExactStepRelation', WHERE WHAT IT READS IS OF BULK AT MOST 1048576: true; the input reads as it did. -/
def fnExactStepRelationUptoRow : OpenClaim := { program := "ytdppjbiphekgjaa", sum := "b9c09d3e554d3a10be6594988b6689558e814d4b054e760108dd46cb3672e4cb", func := "loop.example/g03221/laws.FnExactStepRelation", spec := "fnExactStepRelation", unfollowed := true, recurses := true, apart := false, narrowed := true }
def FnExactStepRelationUptoSaid : Prop := fnExactStepRelationUptoRow.holds Try.pinned (OpenSpec.upto fnExactStepRelationSpec)

/-- 'laws.FnExactTypesBetween', WHERE WHAT IT READS IS OF BULK AT MOST 1048576: true; the input reads as it did. -/
def fnExactTypesBetweenUptoRow : OpenClaim := { program := "ytdppjbiphekgjaa", sum := "b9c09d3e554d3a10be6594988b6689558e814d4b054e760108dd46cb3672e4cb", func := "loop.example/g03221/laws.FnExactTypesBetween", spec := "fnExactTypesBetween", unfollowed := true, recurses := true, apart := false, narrowed := true }
def FnExactTypesBetweenUptoSaid : Prop := fnExactTypesBetweenUptoRow.holds Try.pinned (OpenSpec.upto fnExactTypesBetweenSpec)

/-- 'laws.FnExactShortestType', WHERE WHAT IT READS IS OF BULK AT MOST 1048576: true; the input reads as it did. -/
def fnExactShortestTypeUptoRow : OpenClaim := { program := "ytdppjbiphekgjaa", sum := "b9c09d3e554d3a10be6594988b6689558e814d4b054e760108dd46cb3672e4cb", func := "loop.example/g03221/laws.FnExactShortestType", spec := "fnExactShortestType", unfollowed := true, recurses := true, apart := false, narrowed := true }
def FnExactShortestTypeUptoSaid : Prop := fnExactShortestTypeUptoRow.holds Try.pinned (OpenSpec.upto fnExactShortestTypeSpec)

/-- 'laws.FnExactChildrenOf', WHERE WHAT IT READS IS OF BULK AT MOST 1048576: true; the input reads as it did. -/
def fnExactChildrenOfUptoRow : OpenClaim := { program := "ytdppjbiphekgjaa", sum := "b9c09d3e554d3a10be6594988b6689558e814d4b054e760108dd46cb3672e4cb", func := "loop.example/g03221/laws.FnExactChildrenOf", spec := "fnExactChildrenOf", unfollowed := true, recurses := true, apart := false, narrowed := true }
def FnExactChildrenOfUptoSaid : Prop := fnExactChildrenOfUptoRow.holds Try.pinned (OpenSpec.upto fnExactChildrenOfSpec)

/-- 'laws.FnExactFullSiblings', WHERE WHAT IT READS IS OF BULK AT MOST 1048576: true; the input reads as it did. -/
def fnExactFullSiblingsUptoRow : OpenClaim := { program := "ytdppjbiphekgjaa", sum := "b9c09d3e554d3a10be6594988b6689558e814d4b054e760108dd46cb3672e4cb", func := "loop.example/g03221/laws.FnExactFullSiblings", spec := "fnExactFullSiblings", unfollowed := true, recurses := true, apart := false, narrowed := true }
def FnExactFullSiblingsUptoSaid : Prop := fnExactFullSiblingsUptoRow.holds Try.pinned (OpenSpec.upto fnExactFullSiblingsSpec)

/-- 'laws.FnExactHalfSiblings', WHERE WHAT IT READS IS OF BULK AT MOST 1048576: true; the input reads as it did. -/
def fnExactHalfSiblingsUptoRow : OpenClaim := { program := "ytdppjbiphekgjaa", sum := "b9c09d3e554d3a10be6594988b6689558e814d4b054e760108dd46cb3672e4cb", func := "loop.example/g03221/laws.FnExactHalfSiblings", spec := "fnExactHalfSiblings", unfollowed := true, recurses := true, apart := false, narrowed := true }
def FnExactHalfSiblingsUptoSaid : Prop := fnExactHalfSiblingsUptoRow.holds Try.pinned (OpenSpec.upto fnExactHalfSiblingsSpec)

/-- 'laws.FnExactRenamePeople', WHERE WHAT IT READS IS OF BULK AT MOST 1048576: true; the input reads as it did. -/
def fnExactRenamePeopleUptoRow : OpenClaim := { program := "ytdppjbiphekgjaa", sum := "b9c09d3e554d3a10be6594988b6689558e814d4b054e760108dd46cb3672e4cb", func := "loop.example/g03221/laws.FnExactRenamePeople", spec := "fnExactRenamePeople", unfollowed := true, recurses := true, apart := false, narrowed := true }
def FnExactRenamePeopleUptoSaid : Prop := fnExactRenamePeopleUptoRow.holds Try.pinned (OpenSpec.upto fnExactRenamePeopleSpec)

/-- 'laws.FnExactPermutePeople', WHERE WHAT IT READS IS OF BULK AT MOST 1048576: true; the input reads as it did. -/
def fnExactPermutePeopleUptoRow : OpenClaim := { program := "ytdppjbiphekgjaa", sum := "b9c09d3e554d3a10be6594988b6689558e814d4b054e760108dd46cb3672e4cb", func := "loop.example/g03221/laws.FnExactPermutePeople", spec := "fnExactPermutePeople", unfollowed := true, recurses := true, apart := false, narrowed := true }
def FnExactPermutePeopleUptoSaid : Prop := fnExactPermutePeopleUptoRow.holds Try.pinned (OpenSpec.upto fnExactPermutePeopleSpec)

/-- 'laws.FnSiblings', WHERE WHAT IT READS IS OF BULK AT MOST 1048576: true; the input reads as it did. -/
def fnSiblingsUptoRow : OpenClaim := { program := "ytdppjbiphekgjaa", sum := "b9c09d3e554d3a10be6594988b6689558e814d4b054e760108dd46cb3672e4cb", func := "loop.example/g03221/laws.FnSiblings", spec := "fnSiblings", unfollowed := true, recurses := true, apart := false, narrowed := true }
def FnSiblingsUptoSaid : Prop := fnSiblingsUptoRow.holds Try.pinned (OpenSpec.upto fnSiblingsSpec)

end Rows
end Go.Proofs.Ytdppjbiphekgjaa
