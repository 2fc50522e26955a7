/-
  No cell of these rows narrows 'for every input' (looked for: loops, veiled, ifaces, maps, wideKeys, modest, calm, conditions, laid).
  DERIVED. THE GIVEN ROWS OF THIS SEAT. 9 by the template 'for every input the law returns true; each argument reads behind the call as it read before'; 0 by the template 'total and deterministic' (their statements: YtgkjafmmekjjlaaTotals.lean).
  GIVEN WITH THE SEED: the statements are not yours to turn. If you find one false, say at which input.
  Laid BY PROGRAM, IN A SANDBOX (cutbox-rows.mjs): the forced cells as the released guide's own fill.sh prints them over the translation aded105b8420ff5a… (all of the seat's roots in one cut). By AI agents, Wed Nov 11 2026. No macro, syntax, notation, axiom, sorry.
-/
import Derived.Test.YtgkjafmmekjjlaaChecked
import GoSem.Claim
import GoSem.ClaimJoined
import GoSem.ClaimMapViews
import Derived.JoinedTies
import Derived.KernelRfl
namespace Go.Proofs.Ytgkjafmmekjjlaa
/- THE CELL 'sum', in the pinned program and in every row, IS THE sha256 OF THE DUMP (.gsa) THAT YtgkjafmmekjjlaaProg.lean LOADS. Nothing in Lean hashes anything: it is a label: what it is worth is what the hold of that sum in a sandbox is worth. -/
noncomputable def Try.pinned : Pinned := { name := "ytgkjafmmekjjlaa", sum := "aded105b8420ff5a962ecb8b57619b633e91cbdb44792c9f1dd7a3ed4c787c6e", checked := Try.checked }
namespace Rows
def none {H : Type} : Left H := { results := [], args := [] }

/-- 'laws.FnExactMarriedAt': WHATEVER THE INPUT: true; the input reads as it did. -/
def fnExactMarriedAtSpec : ChangeSpec := { name := "fnExactMarriedAt", fn := fun _ => fun
  | [d1, d2, d3] => { results := [.lit (.bool true)], args := [d1, d2, d3] }
  | _ => none }
def fnExactMarriedAtRow : OpenClaim := { program := "ytgkjafmmekjjlaa", sum := "aded105b8420ff5a962ecb8b57619b633e91cbdb44792c9f1dd7a3ed4c787c6e", func := "loop.example/g03221/laws.FnExactMarriedAt", spec := "fnExactMarriedAt", unfollowed := true, recurses := true, plainKeys := false, apart := false }
def FnExactMarriedAtSaid : Prop := fnExactMarriedAtRow.holds Try.pinned (OpenSpec.ofChange fnExactMarriedAtSpec)

/-- ITS FALSE NEIGHBOUR: 'it returns false'. Refute it at one input. -/
def fnExactMarriedAtWrong : ChangeSpec := { name := "fnExactMarriedAt", fn := fun _ => fun
  | [d1, d2, d3] => { results := [.lit (.bool false)], args := [d1, d2, d3] }
  | _ => none }
def FnExactMarriedAtWrongFalsely : Prop := fnExactMarriedAtRow.holds Try.pinned (OpenSpec.ofChange fnExactMarriedAtWrong)

/-- 'laws.FnExactLinkOf': WHATEVER THE INPUT: true; the input reads as it did. -/
def fnExactLinkOfSpec : ChangeSpec := { name := "fnExactLinkOf", fn := fun _ => fun
  | [d1, d2, d3] => { results := [.lit (.bool true)], args := [d1, d2, d3] }
  | _ => none }
def fnExactLinkOfRow : OpenClaim := { program := "ytgkjafmmekjjlaa", sum := "aded105b8420ff5a962ecb8b57619b633e91cbdb44792c9f1dd7a3ed4c787c6e", func := "loop.example/g03221/laws.FnExactLinkOf", spec := "fnExactLinkOf", unfollowed := true, recurses := true, plainKeys := false, apart := false }
def FnExactLinkOfSaid : Prop := fnExactLinkOfRow.holds Try.pinned (OpenSpec.ofChange fnExactLinkOfSpec)

/-- ITS FALSE NEIGHBOUR: 'it returns false'. Refute it at one input. -/
def fnExactLinkOfWrong : ChangeSpec := { name := "fnExactLinkOf", fn := fun _ => fun
  | [d1, d2, d3] => { results := [.lit (.bool false)], args := [d1, d2, d3] }
  | _ => none }
def FnExactLinkOfWrongFalsely : Prop := fnExactLinkOfRow.holds Try.pinned (OpenSpec.ofChange fnExactLinkOfWrong)

/-- 'laws.FnExactCivilDegree': WHATEVER THE INPUT: true; the input reads as it did. -/
def fnExactCivilDegreeSpec : ChangeSpec := { name := "fnExactCivilDegree", fn := fun _ => fun
  | [d1, d2, d3] => { results := [.lit (.bool true)], args := [d1, d2, d3] }
  | _ => none }
def fnExactCivilDegreeRow : OpenClaim := { program := "ytgkjafmmekjjlaa", sum := "aded105b8420ff5a962ecb8b57619b633e91cbdb44792c9f1dd7a3ed4c787c6e", func := "loop.example/g03221/laws.FnExactCivilDegree", spec := "fnExactCivilDegree", unfollowed := true, recurses := true, plainKeys := false, apart := false }
def FnExactCivilDegreeSaid : Prop := fnExactCivilDegreeRow.holds Try.pinned (OpenSpec.ofChange fnExactCivilDegreeSpec)

/-- ITS FALSE NEIGHBOUR: 'it returns false'. Refute it at one input. -/
def fnExactCivilDegreeWrong : ChangeSpec := { name := "fnExactCivilDegree", fn := fun _ => fun
  | [d1, d2, d3] => { results := [.lit (.bool false)], args := [d1, d2, d3] }
  | _ => none }
def FnExactCivilDegreeWrongFalsely : Prop := fnExactCivilDegreeRow.holds Try.pinned (OpenSpec.ofChange fnExactCivilDegreeWrong)

/-- 'laws.FnExactCanonDegree': WHATEVER THE INPUT: true; the input reads as it did. -/
def fnExactCanonDegreeSpec : ChangeSpec := { name := "fnExactCanonDegree", fn := fun _ => fun
  | [d1, d2, d3] => { results := [.lit (.bool true)], args := [d1, d2, d3] }
  | _ => none }
def fnExactCanonDegreeRow : OpenClaim := { program := "ytgkjafmmekjjlaa", sum := "aded105b8420ff5a962ecb8b57619b633e91cbdb44792c9f1dd7a3ed4c787c6e", func := "loop.example/g03221/laws.FnExactCanonDegree", spec := "fnExactCanonDegree", unfollowed := true, recurses := true, plainKeys := false, apart := false }
def FnExactCanonDegreeSaid : Prop := fnExactCanonDegreeRow.holds Try.pinned (OpenSpec.ofChange fnExactCanonDegreeSpec)

/-- ITS FALSE NEIGHBOUR: 'it returns false'. Refute it at one input. -/
def fnExactCanonDegreeWrong : ChangeSpec := { name := "fnExactCanonDegree", fn := fun _ => fun
  | [d1, d2, d3] => { results := [.lit (.bool false)], args := [d1, d2, d3] }
  | _ => none }
def FnExactCanonDegreeWrongFalsely : Prop := fnExactCanonDegreeRow.holds Try.pinned (OpenSpec.ofChange fnExactCanonDegreeWrong)

/-- 'laws.FnExactIsLaw': WHATEVER THE INPUT: true; the input reads as it did. -/
def fnExactIsLawSpec : ChangeSpec := { name := "fnExactIsLaw", fn := fun _ => fun
  | [d] => { results := [.lit (.bool true)], args := [d] }
  | _ => none }
def fnExactIsLawRow : OpenClaim := { program := "ytgkjafmmekjjlaa", sum := "aded105b8420ff5a962ecb8b57619b633e91cbdb44792c9f1dd7a3ed4c787c6e", func := "loop.example/g03221/laws.FnExactIsLaw", spec := "fnExactIsLaw", unfollowed := true, recurses := true, plainKeys := false, apart := false }
def FnExactIsLawSaid : Prop := fnExactIsLawRow.holds Try.pinned (OpenSpec.ofChange fnExactIsLawSpec)

/-- ITS FALSE NEIGHBOUR: 'it returns false'. Refute it at one input. -/
def fnExactIsLawWrong : ChangeSpec := { name := "fnExactIsLaw", fn := fun _ => fun
  | [d] => { results := [.lit (.bool false)], args := [d] }
  | _ => none }
def FnExactIsLawWrongFalsely : Prop := fnExactIsLawRow.holds Try.pinned (OpenSpec.ofChange fnExactIsLawWrong)

/-- 'laws.FnExactIsStricter': WHATEVER THE INPUT: true; the input reads as it did. -/
def fnExactIsStricterSpec : ChangeSpec := { name := "fnExactIsStricter", fn := fun _ => fun
  | [d1, d2] => { results := [.lit (.bool true)], args := [d1, d2] }
  | _ => none }
def fnExactIsStricterRow : OpenClaim := { program := "ytgkjafmmekjjlaa", sum := "aded105b8420ff5a962ecb8b57619b633e91cbdb44792c9f1dd7a3ed4c787c6e", func := "loop.example/g03221/laws.FnExactIsStricter", spec := "fnExactIsStricter", unfollowed := true, recurses := true, plainKeys := false, apart := false }
def FnExactIsStricterSaid : Prop := fnExactIsStricterRow.holds Try.pinned (OpenSpec.ofChange fnExactIsStricterSpec)

/-- ITS FALSE NEIGHBOUR: 'it returns false'. Refute it at one input. -/
def fnExactIsStricterWrong : ChangeSpec := { name := "fnExactIsStricter", fn := fun _ => fun
  | [d1, d2] => { results := [.lit (.bool false)], args := [d1, d2] }
  | _ => none }
def FnExactIsStricterWrongFalsely : Prop := fnExactIsStricterRow.holds Try.pinned (OpenSpec.ofChange fnExactIsStricterWrong)

/-- 'laws.FnExactClassPartners': WHATEVER THE INPUT: true; the input reads as it did. -/
def fnExactClassPartnersSpec : ChangeSpec := { name := "fnExactClassPartners", fn := fun _ => fun
  | [d1, d2, d3, d4] => { results := [.lit (.bool true)], args := [d1, d2, d3, d4] }
  | _ => none }
def fnExactClassPartnersRow : OpenClaim := { program := "ytgkjafmmekjjlaa", sum := "aded105b8420ff5a962ecb8b57619b633e91cbdb44792c9f1dd7a3ed4c787c6e", func := "loop.example/g03221/laws.FnExactClassPartners", spec := "fnExactClassPartners", unfollowed := true, recurses := true, plainKeys := false, apart := false }
def FnExactClassPartnersSaid : Prop := fnExactClassPartnersRow.holds Try.pinned (OpenSpec.ofChange fnExactClassPartnersSpec)

/-- ITS FALSE NEIGHBOUR: 'it returns false'. Refute it at one input. -/
def fnExactClassPartnersWrong : ChangeSpec := { name := "fnExactClassPartners", fn := fun _ => fun
  | [d1, d2, d3, d4] => { results := [.lit (.bool false)], args := [d1, d2, d3, d4] }
  | _ => none }
def FnExactClassPartnersWrongFalsely : Prop := fnExactClassPartnersRow.holds Try.pinned (OpenSpec.ofChange fnExactClassPartnersWrong)

/-- 'laws.FnSiblings': WHATEVER THE INPUT: true; the input reads as it did. -/
def fnSiblingsSpec : ChangeSpec := { name := "fnSiblings", fn := fun _ => fun
  | [d] => { results := [.lit (.bool true)], args := [d] }
  | _ => none }
def fnSiblingsRow : OpenClaim := { program := "ytgkjafmmekjjlaa", sum := "aded105b8420ff5a962ecb8b57619b633e91cbdb44792c9f1dd7a3ed4c787c6e", func := "loop.example/g03221/laws.FnSiblings", spec := "fnSiblings", unfollowed := true, recurses := true, plainKeys := false, apart := false }
def FnSiblingsSaid : Prop := fnSiblingsRow.holds Try.pinned (OpenSpec.ofChange fnSiblingsSpec)

/-- ITS FALSE NEIGHBOUR: 'it returns false'. Refute it at one input. -/
def fnSiblingsWrong : ChangeSpec := { name := "fnSiblings", fn := fun _ => fun
  | [d] => { results := [.lit (.bool false)], args := [d] }
  | _ => none }
def FnSiblingsWrongFalsely : Prop := fnSiblingsRow.holds Try.pinned (OpenSpec.ofChange fnSiblingsWrong)

/-- 'laws.FnLines': WHATEVER THE INPUT: true; the input reads as it did. -/
def fnLinesSpec : ChangeSpec := { name := "fnLines", fn := fun _ => fun
  | [d] => { results := [.lit (.bool true)], args := [d] }
  | _ => none }
def fnLinesRow : OpenClaim := { program := "ytgkjafmmekjjlaa", sum := "aded105b8420ff5a962ecb8b57619b633e91cbdb44792c9f1dd7a3ed4c787c6e", func := "loop.example/g03221/laws.FnLines", spec := "fnLines", unfollowed := true, recurses := true, plainKeys := false, apart := false }
def FnLinesSaid : Prop := fnLinesRow.holds Try.pinned (OpenSpec.ofChange fnLinesSpec)

/-- ITS FALSE NEIGHBOUR: 'it returns false'. Refute it at one input. -/
def fnLinesWrong : ChangeSpec := { name := "fnLines", fn := fun _ => fun
  | [d] => { results := [.lit (.bool false)], args := [d] }
  | _ => none }
def FnLinesWrongFalsely : Prop := fnLinesRow.holds Try.pinned (OpenSpec.ofChange fnLinesWrong)

/- THE SECOND FORM. 'bulk': how many values and letters a reading holds, each counted each time it is reached (what is shared counts as often as it is met; a slice's spare places count too). A statement '..UptoSaid' is the law's where the arguments, and the package variables that the reading takes, are together of bulk at most 1048576: NARROWER than '..Said'. Prove '..Said' where nothing that the law and all that it calls make is longer than what came in: it says more and counts as full. Else prove '..UptoSaid'. A law counts once. -/
mutual
def uptoBulk {H : Type} : DataW H → Nat
  | .lit (.string bytes) => bytes.length + 1
  | .lit _ => 1
  | .nil => 1
  | .ptr d => uptoBulk d + 1
  | .slice elems spare => uptoBulkAll elems + uptoBulkAll spare + 1
  | .agg parts => uptoBulkAll parts + 1
  | .iface _ d => uptoBulk d + 1
  | .map entries => uptoBulkEntries entries + 1
  | .held _ => 1
def uptoBulkAll {H : Type} : List (DataW H) → Nat
  | [] => 0
  | d :: r => uptoBulk d + uptoBulkAll r
def uptoBulkEntries {H : Type} : List (Lit × DataW H) → Nat
  | [] => 0
  | x :: r => uptoBulkEntry x + uptoBulkEntries r
def uptoBulkEntry {H : Type} : Lit × DataW H → Nat
  | (.string bytes, d) => bytes.length + uptoBulk d + 1
  | (_, d) => uptoBulk d + 1
 end
def uptoSmall : (H : Type) → List (DataW H) → Bool := fun _ ds => decide (uptoBulkAll ds ≤ 1048576)
def OpenSpec.upto (s : _root_.Go.ChangeSpec) : _root_.Go.OpenSpec := { _root_.Go.OpenSpec.ofChange s with cond := some uptoSmall }

/-- 'laws.FnExactMarriedAt', WHERE WHAT IT READS IS OF BULK AT MOST 1048576: true; the input reads as it did. -/
def fnExactMarriedAtUptoRow : OpenClaim := { program := "ytgkjafmmekjjlaa", sum := "aded105b8420ff5a962ecb8b57619b633e91cbdb44792c9f1dd7a3ed4c787c6e", func := "loop.example/g03221/laws.FnExactMarriedAt", spec := "fnExactMarriedAt", unfollowed := true, recurses := true, plainKeys := false, apart := false, narrowed := true }
def FnExactMarriedAtUptoSaid : Prop := fnExactMarriedAtUptoRow.holds Try.pinned (OpenSpec.upto fnExactMarriedAtSpec)

/-- 'laws.FnExactLinkOf', WHERE WHAT IT READS IS OF BULK AT MOST 1048576: true; the input reads as it did. -/
def fnExactLinkOfUptoRow : OpenClaim := { program := "ytgkjafmmekjjlaa", sum := "aded105b8420ff5a962ecb8b57619b633e91cbdb44792c9f1dd7a3ed4c787c6e", func := "loop.example/g03221/laws.FnExactLinkOf", spec := "fnExactLinkOf", unfollowed := true, recurses := true, plainKeys := false, apart := false, narrowed := true }
def FnExactLinkOfUptoSaid : Prop := fnExactLinkOfUptoRow.holds Try.pinned (OpenSpec.upto fnExactLinkOfSpec)

/-- 'laws.FnExactCivilDegree', WHERE WHAT IT READS IS OF BULK AT MOST 1048576: true; the input reads as it did. -/
def fnExactCivilDegreeUptoRow : OpenClaim := { program := "ytgkjafmmekjjlaa", sum := "aded105b8420ff5a962ecb8b57619b633e91cbdb44792c9f1dd7a3ed4c787c6e", func := "loop.example/g03221/laws.FnExactCivilDegree", spec := "fnExactCivilDegree", unfollowed := true, recurses := true, plainKeys := false, apart := false, narrowed := true }
def FnExactCivilDegreeUptoSaid : Prop := fnExactCivilDegreeUptoRow.holds Try.pinned (OpenSpec.upto fnExactCivilDegreeSpec)

/-- 'laws.FnExactCanonDegree', WHERE WHAT IT READS IS OF BULK AT MOST 1048576: true; the input reads as it did. -/
def fnExactCanonDegreeUptoRow : OpenClaim := { program := "ytgkjafmmekjjlaa", sum := "aded105b8420ff5a962ecb8b57619b633e91cbdb44792c9f1dd7a3ed4c787c6e", func := "loop.example/g03221/laws.FnExactCanonDegree", spec := "fnExactCanonDegree", unfollowed := true, recurses := true, plainKeys := false, apart := false, narrowed := true }
def FnExactCanonDegreeUptoSaid : Prop := fnExactCanonDegreeUptoRow.holds Try.pinned (OpenSpec.upto fnExactCanonDegreeSpec)

/-- 'laws.FnExactIsLaw', WHERE WHAT IT READS IS OF BULK AT MOST 1048576: true; the input reads as it did. -/
def fnExactIsLawUptoRow : OpenClaim := { program := "ytgkjafmmekjjlaa", sum := "aded105b8420ff5a962ecb8b57619b633e91cbdb44792c9f1dd7a3ed4c787c6e", func := "loop.example/g03221/laws.FnExactIsLaw", spec := "fnExactIsLaw", unfollowed := true, recurses := true, plainKeys := false, apart := false, narrowed := true }
def FnExactIsLawUptoSaid : Prop := fnExactIsLawUptoRow.holds Try.pinned (OpenSpec.upto fnExactIsLawSpec)

/-- 'laws.FnExactIsStricter', WHERE WHAT IT READS IS OF BULK AT MOST 1048576: true; the input reads as it did. -/
def fnExactIsStricterUptoRow : OpenClaim := { program := "ytgkjafmmekjjlaa", sum := "aded105b8420ff5a962ecb8b57619b633e91cbdb44792c9f1dd7a3ed4c787c6e", func := "loop.example/g03221/laws.FnExactIsStricter", spec := "fnExactIsStricter", unfollowed := true, recurses := true, plainKeys := false, apart := false, narrowed := true }
def FnExactIsStricterUptoSaid : Prop := fnExactIsStricterUptoRow.holds Try.pinned (OpenSpec.upto fnExactIsStricterSpec)

/-- 'laws.FnExactClassPartners', WHERE WHAT IT READS IS OF BULK AT MOST 1048576: true; the input reads as it did. -/
def fnExactClassPartnersUptoRow : OpenClaim := { program := "ytgkjafmmekjjlaa", sum := "aded105b8420ff5a962ecb8b57619b633e91cbdb44792c9f1dd7a3ed4c787c6e", func := "loop.example/g03221/laws.FnExactClassPartners", spec := "fnExactClassPartners", unfollowed := true, recurses := true, plainKeys := false, apart := false, narrowed := true }
def FnExactClassPartnersUptoSaid : Prop := fnExactClassPartnersUptoRow.holds Try.pinned (OpenSpec.upto fnExactClassPartnersSpec)

/-- 'laws.FnSiblings', WHERE WHAT IT READS IS OF BULK AT MOST 1048576: true; the input reads as it did. -/
def fnSiblingsUptoRow : OpenClaim := { program := "ytgkjafmmekjjlaa", sum := "aded105b8420ff5a962ecb8b57619b633e91cbdb44792c9f1dd7a3ed4c787c6e", func := "loop.example/g03221/laws.FnSiblings", spec := "fnSiblings", unfollowed := true, recurses := true, plainKeys := false, apart := false, narrowed := true }
def FnSiblingsUptoSaid : Prop := fnSiblingsUptoRow.holds Try.pinned (OpenSpec.upto fnSiblingsSpec)

/-- 'laws.FnLines', WHERE WHAT IT READS IS OF BULK AT MOST 1048576: true; the input reads as it did. -/
def fnLinesUptoRow : OpenClaim := { program := "ytgkjafmmekjjlaa", sum := "aded105b8420ff5a962ecb8b57619b633e91cbdb44792c9f1dd7a3ed4c787c6e", func := "loop.example/g03221/laws.FnLines", spec := "fnLines", unfollowed := true, recurses := true, plainKeys := false, apart := false, narrowed := true }
def FnLinesUptoSaid : Prop := fnLinesUptoRow.holds Try.pinned (OpenSpec.upto fnLinesSpec)

end Rows
end Go.Proofs.Ytgkjafmmekjjlaa
