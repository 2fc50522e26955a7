/-
  No cell of these rows narrows 'for every input' (looked for: loops, veiled, ifaces, maps, wideKeys, modest, calm, conditions, laid).
  DERIVED. THE GIVEN ROWS OF THIS SEAT. 6 by the template 'for every input the law returns true; each argument reads behind the call as it read before'; 0 by the template 'total and deterministic' (their statements: YtgkjafmmekjjlaaGreatTotals.lean).
  GIVEN WITH THE SEED: the statements are not yours to turn. If you find one false, say at which input.
  Laid BY PROGRAM, IN A SANDBOX (cutbox-rows.mjs): the forced cells as the released guide's own fill.sh prints them over the translation 3ffaa596b2549aab… (all of the seat's roots in one cut). By AI agents, Wed Nov 11 2026. No macro, syntax, notation, axiom, sorry.
-/
import Derived.Test.YtgkjafmmekjjlaaGreatChecked
import GoSem.Claim
import GoSem.ClaimJoined
import GoSem.ClaimMapViews
import Derived.JoinedTies
import Derived.KernelRfl
namespace Go.Proofs.YtgkjafmmekjjlaaGreat
/- THE CELL 'sum', in the pinned program and in every row, IS THE sha256 OF THE DUMP (.gsa) THAT YtgkjafmmekjjlaaGreatProg.lean LOADS. Nothing in Lean hashes anything: it is a label: what it is worth is what the hold of that sum in a sandbox is worth. -/
noncomputable def Tryz.pinned : Pinned := { name := "ytgkjafmmekjjlaagreat", sum := "3ffaa596b2549aab1068fc3adb9c6c714aab15dfb24e3eb23ccd0b35198ec6f7", checked := Tryz.checked }
namespace Rows
def none {H : Type} : Left H := { results := [], args := [] }

/-- 'laws.FnExactImpediments': WHATEVER THE INPUT: true; the input reads as it did. -/
def fnExactImpedimentsSpec : ChangeSpec := { name := "fnExactImpediments", fn := fun _ => fun
  | [d1, d2, d3, d4, d5] => { results := [.lit (.bool true)], args := [d1, d2, d3, d4, d5] }
  | _ => none }
def fnExactImpedimentsRow : OpenClaim := { program := "ytgkjafmmekjjlaagreat", sum := "3ffaa596b2549aab1068fc3adb9c6c714aab15dfb24e3eb23ccd0b35198ec6f7", func := "loop.example/g03221/laws.FnExactImpediments", spec := "fnExactImpediments", unfollowed := true, recurses := true, apart := false }
def FnExactImpedimentsSaid : Prop := fnExactImpedimentsRow.holds Tryz.pinned (OpenSpec.ofChange fnExactImpedimentsSpec)

/-- ITS FALSE NEIGHBOUR: 'it returns false'. Refute it at one input. -/
def fnExactImpedimentsWrong : ChangeSpec := { name := "fnExactImpediments", fn := fun _ => fun
  | [d1, d2, d3, d4, d5] => { results := [.lit (.bool false)], args := [d1, d2, d3, d4, d5] }
  | _ => none }
def FnExactImpedimentsWrongFalsely : Prop := fnExactImpedimentsRow.holds Tryz.pinned (OpenSpec.ofChange fnExactImpedimentsWrong)

/-- 'laws.FnExactMayMarry': WHATEVER THE INPUT: true; the input reads as it did. -/
def fnExactMayMarrySpec : ChangeSpec := { name := "fnExactMayMarry", fn := fun _ => fun
  | [d1, d2, d3, d4, d5] => { results := [.lit (.bool true)], args := [d1, d2, d3, d4, d5] }
  | _ => none }
def fnExactMayMarryRow : OpenClaim := { program := "ytgkjafmmekjjlaagreat", sum := "3ffaa596b2549aab1068fc3adb9c6c714aab15dfb24e3eb23ccd0b35198ec6f7", func := "loop.example/g03221/laws.FnExactMayMarry", spec := "fnExactMayMarry", unfollowed := true, recurses := true, apart := false }
def FnExactMayMarrySaid : Prop := fnExactMayMarryRow.holds Tryz.pinned (OpenSpec.ofChange fnExactMayMarrySpec)

/-- ITS FALSE NEIGHBOUR: 'it returns false'. Refute it at one input. -/
def fnExactMayMarryWrong : ChangeSpec := { name := "fnExactMayMarry", fn := fun _ => fun
  | [d1, d2, d3, d4, d5] => { results := [.lit (.bool false)], args := [d1, d2, d3, d4, d5] }
  | _ => none }
def FnExactMayMarryWrongFalsely : Prop := fnExactMayMarryRow.holds Tryz.pinned (OpenSpec.ofChange fnExactMayMarryWrong)

/-- 'laws.FnExactPartnersAllowed': WHATEVER THE INPUT: true; the input reads as it did. -/
def fnExactPartnersAllowedSpec : ChangeSpec := { name := "fnExactPartnersAllowed", fn := fun _ => fun
  | [d1, d2, d3, d4] => { results := [.lit (.bool true)], args := [d1, d2, d3, d4] }
  | _ => none }
def fnExactPartnersAllowedRow : OpenClaim := { program := "ytgkjafmmekjjlaagreat", sum := "3ffaa596b2549aab1068fc3adb9c6c714aab15dfb24e3eb23ccd0b35198ec6f7", func := "loop.example/g03221/laws.FnExactPartnersAllowed", spec := "fnExactPartnersAllowed", unfollowed := true, recurses := true, apart := false }
def FnExactPartnersAllowedSaid : Prop := fnExactPartnersAllowedRow.holds Tryz.pinned (OpenSpec.ofChange fnExactPartnersAllowedSpec)

/-- ITS FALSE NEIGHBOUR: 'it returns false'. Refute it at one input. -/
def fnExactPartnersAllowedWrong : ChangeSpec := { name := "fnExactPartnersAllowed", fn := fun _ => fun
  | [d1, d2, d3, d4] => { results := [.lit (.bool false)], args := [d1, d2, d3, d4] }
  | _ => none }
def FnExactPartnersAllowedWrongFalsely : Prop := fnExactPartnersAllowedRow.holds Tryz.pinned (OpenSpec.ofChange fnExactPartnersAllowedWrong)

/-- 'laws.FnExactJoinUnion': WHATEVER THE INPUT: true; the input reads as it did. -/
def fnExactJoinUnionSpec : ChangeSpec := { name := "fnExactJoinUnion", fn := fun _ => fun
  | [d1, d2, d3, d4, d5] => { results := [.lit (.bool true)], args := [d1, d2, d3, d4, d5] }
  | _ => none }
def fnExactJoinUnionRow : OpenClaim := { program := "ytgkjafmmekjjlaagreat", sum := "3ffaa596b2549aab1068fc3adb9c6c714aab15dfb24e3eb23ccd0b35198ec6f7", func := "loop.example/g03221/laws.FnExactJoinUnion", spec := "fnExactJoinUnion", unfollowed := true, recurses := true, apart := false }
def FnExactJoinUnionSaid : Prop := fnExactJoinUnionRow.holds Tryz.pinned (OpenSpec.ofChange fnExactJoinUnionSpec)

/-- ITS FALSE NEIGHBOUR: 'it returns false'. Refute it at one input. -/
def fnExactJoinUnionWrong : ChangeSpec := { name := "fnExactJoinUnion", fn := fun _ => fun
  | [d1, d2, d3, d4, d5] => { results := [.lit (.bool false)], args := [d1, d2, d3, d4, d5] }
  | _ => none }
def FnExactJoinUnionWrongFalsely : Prop := fnExactJoinUnionRow.holds Tryz.pinned (OpenSpec.ofChange fnExactJoinUnionWrong)

/-- 'laws.FnExactAuditUnions': WHATEVER THE INPUT: true; the input reads as it did. -/
def fnExactAuditUnionsSpec : ChangeSpec := { name := "fnExactAuditUnions", fn := fun _ => fun
  | [d1, d2] => { results := [.lit (.bool true)], args := [d1, d2] }
  | _ => none }
def fnExactAuditUnionsRow : OpenClaim := { program := "ytgkjafmmekjjlaagreat", sum := "3ffaa596b2549aab1068fc3adb9c6c714aab15dfb24e3eb23ccd0b35198ec6f7", func := "loop.example/g03221/laws.FnExactAuditUnions", spec := "fnExactAuditUnions", unfollowed := true, recurses := true, apart := false }
def FnExactAuditUnionsSaid : Prop := fnExactAuditUnionsRow.holds Tryz.pinned (OpenSpec.ofChange fnExactAuditUnionsSpec)

/-- ITS FALSE NEIGHBOUR: 'it returns false'. Refute it at one input. -/
def fnExactAuditUnionsWrong : ChangeSpec := { name := "fnExactAuditUnions", fn := fun _ => fun
  | [d1, d2] => { results := [.lit (.bool false)], args := [d1, d2] }
  | _ => none }
def FnExactAuditUnionsWrongFalsely : Prop := fnExactAuditUnionsRow.holds Tryz.pinned (OpenSpec.ofChange fnExactAuditUnionsWrong)

/-- 'laws.FnStricter': WHATEVER THE INPUT: true; the input reads as it did. -/
def fnStricterSpec : ChangeSpec := { name := "fnStricter", fn := fun _ => fun
  | [d] => { results := [.lit (.bool true)], args := [d] }
  | _ => none }
def fnStricterRow : OpenClaim := { program := "ytgkjafmmekjjlaagreat", sum := "3ffaa596b2549aab1068fc3adb9c6c714aab15dfb24e3eb23ccd0b35198ec6f7", func := "loop.example/g03221/laws.FnStricter", spec := "fnStricter", unfollowed := true, recurses := true, apart := false }
def FnStricterSaid : Prop := fnStricterRow.holds Tryz.pinned (OpenSpec.ofChange fnStricterSpec)

/-- ITS FALSE NEIGHBOUR: 'it returns false'. Refute it at one input. -/
def fnStricterWrong : ChangeSpec := { name := "fnStricter", fn := fun _ => fun
  | [d] => { results := [.lit (.bool false)], args := [d] }
  | _ => none }
def FnStricterWrongFalsely : Prop := fnStricterRow.holds Tryz.pinned (OpenSpec.ofChange fnStricterWrong)

/- THE SECOND FORM. 'bulk': how many values and letters a reading holds, each counted each time it is reached (what is shared counts as often as it is met; a slice's spare places count too). A statement '..UptoSaid' is the law's where the arguments, and the package variables that the reading takes, are together of bulk at most 1048576: NARROWER than '..Said'. Prove '..Said' where nothing that the law and all that it calls make is longer than what came in: it says more and counts as full. Else prove '..UptoSaid'. A law counts once. -/
mutual
def uptoBulk {H : Type} : DataW H → Nat
  | .lit (.string bytes) => bytes.length + 1
  | .lit _ => 1
  | .nil => 1
  | .ptr d => uptoBulk d + 1
  | .slice elems spare => uptoBulkAll elems + uptoBulkAll spare + 1
  | .agg parts => uptoBulkAll parts + 1
  | .iface _ d => uptoBulk d + 1
  | .map entries => uptoBulkEntries entries + 1
  | .held _ => 1
def uptoBulkAll {H : Type} : List (DataW H) → Nat
  | [] => 0
  | d :: r => uptoBulk d + uptoBulkAll r
def uptoBulkEntries {H : Type} : List (Lit × DataW H) → Nat
  | [] => 0
  | x :: r => uptoBulkEntry x + uptoBulkEntries r
def uptoBulkEntry {H : Type} : Lit × DataW H → Nat
  | (.string bytes, d) => bytes.length + uptoBulk d + 1
  | (_, d) => uptoBulk d + 1
 end
def uptoSmall : (H : Type) → List (DataW H) → Bool := fun _ ds => decide (uptoBulkAll ds ≤ 1048576)
def OpenSpec.upto (s : _root_.Go.ChangeSpec) : _root_.Go.OpenSpec := { _root_.Go.OpenSpec.ofChange s with cond := some uptoSmall }

/-- 'laws.FnExactImpediments', WHERE WHAT IT READS IS OF BULK AT MOST 1048576: true; the input reads as it did. -/
def fnExactImpedimentsUptoRow : OpenClaim := { program := "ytgkjafmmekjjlaagreat", sum := "3ffaa596b2549aab1068fc3adb9c6c714aab15dfb24e3eb23ccd0b35198ec6f7", func := "loop.example/g03221/laws.FnExactImpediments", spec := "fnExactImpediments", unfollowed := true, recurses := true, apart := false, narrowed := true }
def FnExactImpedimentsUptoSaid : Prop := fnExactImpedimentsUptoRow.holds Tryz.pinned (OpenSpec.upto fnExactImpedimentsSpec)

/-- 'laws.FnExactMayMarry', WHERE WHAT IT READS IS OF BULK AT MOST 1048576: true; the input reads as it did. -/
def fnExactMayMarryUptoRow : OpenClaim := { program := "ytgkjafmmekjjlaagreat", sum := "3ffaa596b2549aab1068fc3adb9c6c714aab15dfb24e3eb23ccd0b35198ec6f7", func := "loop.example/g03221/laws.FnExactMayMarry", spec := "fnExactMayMarry", unfollowed := true, recurses := true, apart := false, narrowed := true }
def FnExactMayMarryUptoSaid : Prop := fnExactMayMarryUptoRow.holds Tryz.pinned (OpenSpec.upto fnExactMayMarrySpec)

/-- 'laws.FnExactPartnersAllowed', WHERE WHAT IT READS IS OF BULK AT MOST 1048576: true; the input reads as it did. -/
def fnExactPartnersAllowedUptoRow : OpenClaim := { program := "ytgkjafmmekjjlaagreat", sum := "3ffaa596b2549aab1068fc3adb9c6c714aab15dfb24e3eb23ccd0b35198ec6f7", func := "loop.example/g03221/laws.FnExactPartnersAllowed", spec := "fnExactPartnersAllowed", unfollowed := true, recurses := true, apart := false, narrowed := true }
def FnExactPartnersAllowedUptoSaid : Prop := fnExactPartnersAllowedUptoRow.holds Tryz.pinned (OpenSpec.upto fnExactPartnersAllowedSpec)

/-- 'laws.FnExactJoinUnion', WHERE WHAT IT READS IS OF BULK AT MOST 1048576: true; the input reads as it did. -/
def fnExactJoinUnionUptoRow : OpenClaim := { program := "ytgkjafmmekjjlaagreat", sum := "3ffaa596b2549aab1068fc3adb9c6c714aab15dfb24e3eb23ccd0b35198ec6f7", func := "loop.example/g03221/laws.FnExactJoinUnion", spec := "fnExactJoinUnion", unfollowed := true, recurses := true, apart := false, narrowed := true }
def FnExactJoinUnionUptoSaid : Prop := fnExactJoinUnionUptoRow.holds Tryz.pinned (OpenSpec.upto fnExactJoinUnionSpec)

/-- 'laws.FnExactAuditUnions', WHERE WHAT IT READS IS OF BULK AT MOST 1048576: true; the input reads as it did. -/
def fnExactAuditUnionsUptoRow : OpenClaim := { program := "ytgkjafmmekjjlaagreat", sum := "3ffaa596b2549aab1068fc3adb9c6c714aab15dfb24e3eb23ccd0b35198ec6f7", func := "loop.example/g03221/laws.FnExactAuditUnions", spec := "fnExactAuditUnions", unfollowed := true, recurses := true, apart := false, narrowed := true }
def FnExactAuditUnionsUptoSaid : Prop := fnExactAuditUnionsUptoRow.holds Tryz.pinned (OpenSpec.upto fnExactAuditUnionsSpec)

/-- 'laws.FnStricter', WHERE WHAT IT READS IS OF BULK AT MOST 1048576: true; the input reads as it did. -/
def fnStricterUptoRow : OpenClaim := { program := "ytgkjafmmekjjlaagreat", sum := "3ffaa596b2549aab1068fc3adb9c6c714aab15dfb24e3eb23ccd0b35198ec6f7", func := "loop.example/g03221/laws.FnStricter", spec := "fnStricter", unfollowed := true, recurses := true, apart := false, narrowed := true }
def FnStricterUptoSaid : Prop := fnStricterUptoRow.holds Tryz.pinned (OpenSpec.upto fnStricterSpec)

end Rows
end Go.Proofs.YtgkjafmmekjjlaaGreat
