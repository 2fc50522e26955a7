/-
  NARROWER THAN 'FOR EVERY INPUT', by the rows' own cells (each row's printed sentence says how): FnExactDyadOf: laid · FnExactAddDyads: laid · FnExactFormatDyad: laid · FnExactKinship: laid · FnExactInbreeding: laid · FnExactKinshipByLines: laid · FnDyads: laid · FnKinship: laid · FnWright: laid.
  DERIVED. THE GIVEN ROWS OF THIS SEAT. 9 by the template 'for every input the law returns true; each argument reads behind the call as it read before'; 0 by the template 'total and deterministic' (their statements: YtplkockghigpdaaDoorTotals.lean).
  GIVEN WITH THE SEED: the statements are not yours to turn. If you find one false, say at which input.
  Laid BY PROGRAM, IN A SANDBOX (cutbox-rows.mjs): the forced cells as the released guide's own fill.sh prints them over the translation 3d5df770f55eb634… (all of the seat's roots in one cut). By AI agents, Wed Nov 11 2026. No macro, syntax, notation, axiom, sorry.
-/
import Derived.Test.YtplkockghigpdaaDoorChecked
import GoSem.Claim
import GoSem.ClaimJoined
import GoSem.ClaimMapViews
import Derived.JoinedTies
import Derived.KernelRfl
namespace Go.Proofs.YtplkockghigpdaaDoor
/- THE CELL 'sum', in the pinned program and in every row, IS THE sha256 OF THE DUMP (.gsa) THAT YtplkockghigpdaaDoorProg.lean LOADS. Nothing in Lean hashes anything: it is a label: what it is worth is what the hold of that sum in a sandbox is worth. -/
noncomputable def Tryd.pinned : Pinned := { name := "ytplkockghigpdaadoor", sum := "3d5df770f55eb6342a5b3af7e2f69b84fbc2280aad5efaa1cdf12838ac5a0f5b", checked := Tryd.checked }
namespace Rows
def none {H : Type} : Left H := { results := [], args := [] }

/- WHAT THE LISTED PACKAGE-LEVEL VARIABLES READ AS WHEN THE CALL BEGINS. Each datum BY PROGRAM (the guide's laid-datum.mjs) off the statement by which the dump's own 'gosem.cut.vars' lays the variable. In a bare row this is a premise. The card (YtplkockghigpdaaDoorCards.lean) ties it to the program's text. -/
def laid_math_bits_deBruijn32tab {H : Type} : DataW H := .agg [.lit (.int .u8 0), .lit (.int .u8 1), .lit (.int .u8 28), .lit (.int .u8 2), .lit (.int .u8 29), .lit (.int .u8 14), .lit (.int .u8 24), .lit (.int .u8 3), .lit (.int .u8 30), .lit (.int .u8 22), .lit (.int .u8 20), .lit (.int .u8 15), .lit (.int .u8 25), .lit (.int .u8 17), .lit (.int .u8 4), .lit (.int .u8 8), .lit (.int .u8 31), .lit (.int .u8 27), .lit (.int .u8 13), .lit (.int .u8 23), .lit (.int .u8 21), .lit (.int .u8 19), .lit (.int .u8 16), .lit (.int .u8 7), .lit (.int .u8 26), .lit (.int .u8 12), .lit (.int .u8 18), .lit (.int .u8 6), .lit (.int .u8 11), .lit (.int .u8 5), .lit (.int .u8 10), .lit (.int .u8 9)]
def laid_math_bits_deBruijn64tab {H : Type} : DataW H := .agg [.lit (.int .u8 0), .lit (.int .u8 1), .lit (.int .u8 56), .lit (.int .u8 2), .lit (.int .u8 57), .lit (.int .u8 49), .lit (.int .u8 28), .lit (.int .u8 3), .lit (.int .u8 61), .lit (.int .u8 58), .lit (.int .u8 42), .lit (.int .u8 50), .lit (.int .u8 38), .lit (.int .u8 29), .lit (.int .u8 17), .lit (.int .u8 4), .lit (.int .u8 62), .lit (.int .u8 47), .lit (.int .u8 59), .lit (.int .u8 36), .lit (.int .u8 45), .lit (.int .u8 43), .lit (.int .u8 51), .lit (.int .u8 22), .lit (.int .u8 53), .lit (.int .u8 39), .lit (.int .u8 33), .lit (.int .u8 30), .lit (.int .u8 24), .lit (.int .u8 18), .lit (.int .u8 12), .lit (.int .u8 5), .lit (.int .u8 63), .lit (.int .u8 55), .lit (.int .u8 48), .lit (.int .u8 27), .lit (.int .u8 60), .lit (.int .u8 41), .lit (.int .u8 37), .lit (.int .u8 16), .lit (.int .u8 46), .lit (.int .u8 35), .lit (.int .u8 44), .lit (.int .u8 21), .lit (.int .u8 52), .lit (.int .u8 32), .lit (.int .u8 23), .lit (.int .u8 11), .lit (.int .u8 54), .lit (.int .u8 26), .lit (.int .u8 40), .lit (.int .u8 15), .lit (.int .u8 34), .lit (.int .u8 20), .lit (.int .u8 31), .lit (.int .u8 10), .lit (.int .u8 25), .lit (.int .u8 14), .lit (.int .u8 19), .lit (.int .u8 9), .lit (.int .u8 13), .lit (.int .u8 8), .lit (.int .u8 7), .lit (.int .u8 6)]
def laid_internal_strconv_uint64pow10 {H : Type} : DataW H := .agg [.lit (.int .u64 1), .lit (.int .u64 10), .lit (.int .u64 100), .lit (.int .u64 1000), .lit (.int .u64 10000), .lit (.int .u64 100000), .lit (.int .u64 1000000), .lit (.int .u64 10000000), .lit (.int .u64 100000000), .lit (.int .u64 1000000000), .lit (.int .u64 10000000000), .lit (.int .u64 100000000000), .lit (.int .u64 1000000000000), .lit (.int .u64 10000000000000), .lit (.int .u64 100000000000000), .lit (.int .u64 1000000000000000), .lit (.int .u64 10000000000000000), .lit (.int .u64 100000000000000000), .lit (.int .u64 1000000000000000000), .lit (.int .u64 10000000000000000000)]

/-- 'laws.FnExactDyadOf': WHATEVER THE INPUT: true; the input reads as it did. -/
def fnExactDyadOfSpec : ChangeSpec := { name := "fnExactDyadOf", fn := fun _ => fun
  | [d1, d2] => { results := [.lit (.bool true)], args := [d1, d2] }
  | _ => none }
def fnExactDyadOfRow : OpenClaim := { program := "ytplkockghigpdaadoor", sum := "3d5df770f55eb6342a5b3af7e2f69b84fbc2280aad5efaa1cdf12838ac5a0f5b", func := "loop.example/g03221/laws.FnExactDyadOf", spec := "fnExactDyadOf", named := ["math/bits.deBruijn32tab", "math/bits.deBruijn64tab"], apart := false, laid := [("math/bits.deBruijn32tab", laid_math_bits_deBruijn32tab), ("math/bits.deBruijn64tab", laid_math_bits_deBruijn64tab)] }
def FnExactDyadOfSaid : Prop := fnExactDyadOfRow.holds Tryd.pinned (OpenSpec.ofChange fnExactDyadOfSpec)

/-- ITS FALSE NEIGHBOUR: 'it returns false'. Refute it at one input. -/
def fnExactDyadOfWrong : ChangeSpec := { name := "fnExactDyadOf", fn := fun _ => fun
  | [d1, d2] => { results := [.lit (.bool false)], args := [d1, d2] }
  | _ => none }
def FnExactDyadOfWrongFalsely : Prop := fnExactDyadOfRow.holds Tryd.pinned (OpenSpec.ofChange fnExactDyadOfWrong)

/-- 'laws.FnExactAddDyads': WHATEVER THE INPUT: true; the input reads as it did. -/
def fnExactAddDyadsSpec : ChangeSpec := { name := "fnExactAddDyads", fn := fun _ => fun
  | [d1, d2] => { results := [.lit (.bool true)], args := [d1, d2] }
  | _ => none }
def fnExactAddDyadsRow : OpenClaim := { program := "ytplkockghigpdaadoor", sum := "3d5df770f55eb6342a5b3af7e2f69b84fbc2280aad5efaa1cdf12838ac5a0f5b", func := "loop.example/g03221/laws.FnExactAddDyads", spec := "fnExactAddDyads", named := ["math/bits.deBruijn32tab", "math/bits.deBruijn64tab"], apart := false, laid := [("math/bits.deBruijn32tab", laid_math_bits_deBruijn32tab), ("math/bits.deBruijn64tab", laid_math_bits_deBruijn64tab)] }
def FnExactAddDyadsSaid : Prop := fnExactAddDyadsRow.holds Tryd.pinned (OpenSpec.ofChange fnExactAddDyadsSpec)

/-- ITS FALSE NEIGHBOUR: 'it returns false'. Refute it at one input. -/
def fnExactAddDyadsWrong : ChangeSpec := { name := "fnExactAddDyads", fn := fun _ => fun
  | [d1, d2] => { results := [.lit (.bool false)], args := [d1, d2] }
  | _ => none }
def FnExactAddDyadsWrongFalsely : Prop := fnExactAddDyadsRow.holds Tryd.pinned (OpenSpec.ofChange fnExactAddDyadsWrong)

/-- 'laws.FnExactFormatDyad': WHATEVER THE INPUT: true; the input reads as it did. -/
def fnExactFormatDyadSpec : ChangeSpec := { name := "fnExactFormatDyad", fn := fun _ => fun
  | [d] => { results := [.lit (.bool true)], args := [d] }
  | _ => none }
def fnExactFormatDyadRow : OpenClaim := { program := "ytplkockghigpdaadoor", sum := "3d5df770f55eb6342a5b3af7e2f69b84fbc2280aad5efaa1cdf12838ac5a0f5b", func := "loop.example/g03221/laws.FnExactFormatDyad", spec := "fnExactFormatDyad", named := ["math/bits.deBruijn32tab", "math/bits.deBruijn64tab", "internal/strconv.uint64pow10"], apart := false, laid := [("math/bits.deBruijn32tab", laid_math_bits_deBruijn32tab), ("math/bits.deBruijn64tab", laid_math_bits_deBruijn64tab), ("internal/strconv.uint64pow10", laid_internal_strconv_uint64pow10)] }
def FnExactFormatDyadSaid : Prop := fnExactFormatDyadRow.holds Tryd.pinned (OpenSpec.ofChange fnExactFormatDyadSpec)

/-- ITS FALSE NEIGHBOUR: 'it returns false'. Refute it at one input. -/
def fnExactFormatDyadWrong : ChangeSpec := { name := "fnExactFormatDyad", fn := fun _ => fun
  | [d] => { results := [.lit (.bool false)], args := [d] }
  | _ => none }
def FnExactFormatDyadWrongFalsely : Prop := fnExactFormatDyadRow.holds Tryd.pinned (OpenSpec.ofChange fnExactFormatDyadWrong)

/-- 'laws.FnExactKinship': WHATEVER THE INPUT: true; the input reads as it did. -/
def fnExactKinshipSpec : ChangeSpec := { name := "fnExactKinship", fn := fun _ => fun
  | [d1, d2, d3] => { results := [.lit (.bool true)], args := [d1, d2, d3] }
  | _ => none }
def fnExactKinshipRow : OpenClaim := { program := "ytplkockghigpdaadoor", sum := "3d5df770f55eb6342a5b3af7e2f69b84fbc2280aad5efaa1cdf12838ac5a0f5b", func := "loop.example/g03221/laws.FnExactKinship", spec := "fnExactKinship", unfollowed := true, recurses := true, named := ["math/bits.deBruijn32tab", "math/bits.deBruijn64tab"], apart := false, laid := [("math/bits.deBruijn32tab", laid_math_bits_deBruijn32tab), ("math/bits.deBruijn64tab", laid_math_bits_deBruijn64tab)] }
def FnExactKinshipSaid : Prop := fnExactKinshipRow.holds Tryd.pinned (OpenSpec.ofChange fnExactKinshipSpec)

/-- ITS FALSE NEIGHBOUR: 'it returns false'. Refute it at one input. -/
def fnExactKinshipWrong : ChangeSpec := { name := "fnExactKinship", fn := fun _ => fun
  | [d1, d2, d3] => { results := [.lit (.bool false)], args := [d1, d2, d3] }
  | _ => none }
def FnExactKinshipWrongFalsely : Prop := fnExactKinshipRow.holds Tryd.pinned (OpenSpec.ofChange fnExactKinshipWrong)

/-- 'laws.FnExactInbreeding': WHATEVER THE INPUT: true; the input reads as it did. -/
def fnExactInbreedingSpec : ChangeSpec := { name := "fnExactInbreeding", fn := fun _ => fun
  | [d1, d2] => { results := [.lit (.bool true)], args := [d1, d2] }
  | _ => none }
def fnExactInbreedingRow : OpenClaim := { program := "ytplkockghigpdaadoor", sum := "3d5df770f55eb6342a5b3af7e2f69b84fbc2280aad5efaa1cdf12838ac5a0f5b", func := "loop.example/g03221/laws.FnExactInbreeding", spec := "fnExactInbreeding", unfollowed := true, recurses := true, named := ["math/bits.deBruijn32tab", "math/bits.deBruijn64tab"], apart := false, laid := [("math/bits.deBruijn32tab", laid_math_bits_deBruijn32tab), ("math/bits.deBruijn64tab", laid_math_bits_deBruijn64tab)] }
def FnExactInbreedingSaid : Prop := fnExactInbreedingRow.holds Tryd.pinned (OpenSpec.ofChange fnExactInbreedingSpec)

/-- ITS FALSE NEIGHBOUR: 'it returns false'. Refute it at one input. -/
def fnExactInbreedingWrong : ChangeSpec := { name := "fnExactInbreeding", fn := fun _ => fun
  | [d1, d2] => { results := [.lit (.bool false)], args := [d1, d2] }
  | _ => none }
def FnExactInbreedingWrongFalsely : Prop := fnExactInbreedingRow.holds Tryd.pinned (OpenSpec.ofChange fnExactInbreedingWrong)

/-- 'laws.FnExactKinshipByLines': WHATEVER THE INPUT: true; the input reads as it did. -/
def fnExactKinshipByLinesSpec : ChangeSpec := { name := "fnExactKinshipByLines", fn := fun _ => fun
  | [d1, d2, d3] => { results := [.lit (.bool true)], args := [d1, d2, d3] }
  | _ => none }
def fnExactKinshipByLinesRow : OpenClaim := { program := "ytplkockghigpdaadoor", sum := "3d5df770f55eb6342a5b3af7e2f69b84fbc2280aad5efaa1cdf12838ac5a0f5b", func := "loop.example/g03221/laws.FnExactKinshipByLines", spec := "fnExactKinshipByLines", unfollowed := true, recurses := true, named := ["math/bits.deBruijn32tab", "math/bits.deBruijn64tab"], apart := false, laid := [("math/bits.deBruijn32tab", laid_math_bits_deBruijn32tab), ("math/bits.deBruijn64tab", laid_math_bits_deBruijn64tab)] }
def FnExactKinshipByLinesSaid : Prop := fnExactKinshipByLinesRow.holds Tryd.pinned (OpenSpec.ofChange fnExactKinshipByLinesSpec)

/-- ITS FALSE NEIGHBOUR: 'it returns false'. Refute it at one input. -/
def fnExactKinshipByLinesWrong : ChangeSpec := { name := "fnExactKinshipByLines", fn := fun _ => fun
  | [d1, d2, d3] => { results := [.lit (.bool false)], args := [d1, d2, d3] }
  | _ => none }
def FnExactKinshipByLinesWrongFalsely : Prop := fnExactKinshipByLinesRow.holds Tryd.pinned (OpenSpec.ofChange fnExactKinshipByLinesWrong)

/-- 'laws.FnDyads': WHATEVER THE INPUT: true; the input reads as it did. -/
def fnDyadsSpec : ChangeSpec := { name := "fnDyads", fn := fun _ => fun
  | [d] => { results := [.lit (.bool true)], args := [d] }
  | _ => none }
def fnDyadsRow : OpenClaim := { program := "ytplkockghigpdaadoor", sum := "3d5df770f55eb6342a5b3af7e2f69b84fbc2280aad5efaa1cdf12838ac5a0f5b", func := "loop.example/g03221/laws.FnDyads", spec := "fnDyads", named := ["math/bits.deBruijn32tab", "math/bits.deBruijn64tab"], apart := false, laid := [("math/bits.deBruijn32tab", laid_math_bits_deBruijn32tab), ("math/bits.deBruijn64tab", laid_math_bits_deBruijn64tab)] }
def FnDyadsSaid : Prop := fnDyadsRow.holds Tryd.pinned (OpenSpec.ofChange fnDyadsSpec)

/-- ITS FALSE NEIGHBOUR: 'it returns false'. Refute it at one input. -/
def fnDyadsWrong : ChangeSpec := { name := "fnDyads", fn := fun _ => fun
  | [d] => { results := [.lit (.bool false)], args := [d] }
  | _ => none }
def FnDyadsWrongFalsely : Prop := fnDyadsRow.holds Tryd.pinned (OpenSpec.ofChange fnDyadsWrong)

/-- 'laws.FnKinship': WHATEVER THE INPUT: true; the input reads as it did. -/
def fnKinshipSpec : ChangeSpec := { name := "fnKinship", fn := fun _ => fun
  | [d] => { results := [.lit (.bool true)], args := [d] }
  | _ => none }
def fnKinshipRow : OpenClaim := { program := "ytplkockghigpdaadoor", sum := "3d5df770f55eb6342a5b3af7e2f69b84fbc2280aad5efaa1cdf12838ac5a0f5b", func := "loop.example/g03221/laws.FnKinship", spec := "fnKinship", unfollowed := true, recurses := true, named := ["math/bits.deBruijn32tab", "math/bits.deBruijn64tab"], apart := false, laid := [("math/bits.deBruijn32tab", laid_math_bits_deBruijn32tab), ("math/bits.deBruijn64tab", laid_math_bits_deBruijn64tab)] }
def FnKinshipSaid : Prop := fnKinshipRow.holds Tryd.pinned (OpenSpec.ofChange fnKinshipSpec)

/-- ITS FALSE NEIGHBOUR: 'it returns false'. Refute it at one input. -/
def fnKinshipWrong : ChangeSpec := { name := "fnKinship", fn := fun _ => fun
  | [d] => { results := [.lit (.bool false)], args := [d] }
  | _ => none }
def FnKinshipWrongFalsely : Prop := fnKinshipRow.holds Tryd.pinned (OpenSpec.ofChange fnKinshipWrong)

/-- 'laws.FnWright': WHATEVER THE INPUT: true; the input reads as it did. -/
def fnWrightSpec : ChangeSpec := { name := "fnWright", fn := fun _ => fun
  | [d] => { results := [.lit (.bool true)], args := [d] }
  | _ => none }
def fnWrightRow : OpenClaim := { program := "ytplkockghigpdaadoor", sum := "3d5df770f55eb6342a5b3af7e2f69b84fbc2280aad5efaa1cdf12838ac5a0f5b", func := "loop.example/g03221/laws.FnWright", spec := "fnWright", unfollowed := true, recurses := true, named := ["math/bits.deBruijn32tab", "math/bits.deBruijn64tab"], apart := false, laid := [("math/bits.deBruijn32tab", laid_math_bits_deBruijn32tab), ("math/bits.deBruijn64tab", laid_math_bits_deBruijn64tab)] }
def FnWrightSaid : Prop := fnWrightRow.holds Tryd.pinned (OpenSpec.ofChange fnWrightSpec)

/-- ITS FALSE NEIGHBOUR: 'it returns false'. Refute it at one input. -/
def fnWrightWrong : ChangeSpec := { name := "fnWright", fn := fun _ => fun
  | [d] => { results := [.lit (.bool false)], args := [d] }
  | _ => none }
def FnWrightWrongFalsely : Prop := fnWrightRow.holds Tryd.pinned (OpenSpec.ofChange fnWrightWrong)

/- THE SECOND FORM. 'bulk': how many values and letters a reading holds, each counted each time it is reached (what is shared counts as often as it is met; a slice's spare places count too). A statement '..UptoSaid' is the law's where the arguments, and the package variables that the reading takes, are together of bulk at most 1048576: NARROWER than '..Said'. Prove '..Said' where nothing that the law and all that it calls make is longer than what came in: it says more and counts as full. Else prove '..UptoSaid'. A law counts once. -/
mutual
def uptoBulk {H : Type} : DataW H → Nat
  | .lit (.string bytes) => bytes.length + 1
  | .lit _ => 1
  | .nil => 1
  | .ptr d => uptoBulk d + 1
  | .slice elems spare => uptoBulkAll elems + uptoBulkAll spare + 1
  | .agg parts => uptoBulkAll parts + 1
  | .iface _ d => uptoBulk d + 1
  | .map entries => uptoBulkEntries entries + 1
  | .held _ => 1
def uptoBulkAll {H : Type} : List (DataW H) → Nat
  | [] => 0
  | d :: r => uptoBulk d + uptoBulkAll r
def uptoBulkEntries {H : Type} : List (Lit × DataW H) → Nat
  | [] => 0
  | x :: r => uptoBulkEntry x + uptoBulkEntries r
def uptoBulkEntry {H : Type} : Lit × DataW H → Nat
  | (.string bytes, d) => bytes.length + uptoBulk d + 1
  | (_, d) => uptoBulk d + 1
 end
def uptoSmall : (H : Type) → List (DataW H) → Bool := fun _ ds => decide (uptoBulkAll ds ≤ 1048576)
def OpenSpec.upto (s : _root_.Go.ChangeSpec) : _root_.Go.OpenSpec := { _root_.Go.OpenSpec.ofChange s with cond := some uptoSmall }

/-- 'laws.FnExactDyadOf', WHERE WHAT IT READS IS OF BULK AT MOST 1048576: true; the input reads as it did. -/
def fnExactDyadOfUptoRow : OpenClaim := { program := "ytplkockghigpdaadoor", sum := "3d5df770f55eb6342a5b3af7e2f69b84fbc2280aad5efaa1cdf12838ac5a0f5b", func := "loop.example/g03221/laws.FnExactDyadOf", spec := "fnExactDyadOf", named := ["math/bits.deBruijn32tab", "math/bits.deBruijn64tab"], apart := false, laid := [("math/bits.deBruijn32tab", laid_math_bits_deBruijn32tab), ("math/bits.deBruijn64tab", laid_math_bits_deBruijn64tab)], narrowed := true }
def FnExactDyadOfUptoSaid : Prop := fnExactDyadOfUptoRow.holds Tryd.pinned (OpenSpec.upto fnExactDyadOfSpec)

/-- 'laws.FnExactAddDyads', WHERE WHAT IT READS IS OF BULK AT MOST 1048576: true; the input reads as it did. -/
def fnExactAddDyadsUptoRow : OpenClaim := { program := "ytplkockghigpdaadoor", sum := "3d5df770f55eb6342a5b3af7e2f69b84fbc2280aad5efaa1cdf12838ac5a0f5b", func := "loop.example/g03221/laws.FnExactAddDyads", spec := "fnExactAddDyads", named := ["math/bits.deBruijn32tab", "math/bits.deBruijn64tab"], apart := false, laid := [("math/bits.deBruijn32tab", laid_math_bits_deBruijn32tab), ("math/bits.deBruijn64tab", laid_math_bits_deBruijn64tab)], narrowed := true }
def FnExactAddDyadsUptoSaid : Prop := fnExactAddDyadsUptoRow.holds Tryd.pinned (OpenSpec.upto fnExactAddDyadsSpec)

/-- 'laws.FnExactFormatDyad', WHERE WHAT IT READS IS OF BULK AT MOST 1048576: true; the input reads as it did. -/
def fnExactFormatDyadUptoRow : OpenClaim := { program := "ytplkockghigpdaadoor", sum := "3d5df770f55eb6342a5b3af7e2f69b84fbc2280aad5efaa1cdf12838ac5a0f5b", func := "loop.example/g03221/laws.FnExactFormatDyad", spec := "fnExactFormatDyad", named := ["math/bits.deBruijn32tab", "math/bits.deBruijn64tab", "internal/strconv.uint64pow10"], apart := false, laid := [("math/bits.deBruijn32tab", laid_math_bits_deBruijn32tab), ("math/bits.deBruijn64tab", laid_math_bits_deBruijn64tab), ("internal/strconv.uint64pow10", laid_internal_strconv_uint64pow10)], narrowed := true }
def FnExactFormatDyadUptoSaid : Prop := fnExactFormatDyadUptoRow.holds Tryd.pinned (OpenSpec.upto fnExactFormatDyadSpec)

/-- 'laws.FnExactKinship', WHERE WHAT IT READS IS OF BULK AT MOST 1048576: true; the input reads as it did. -/
def fnExactKinshipUptoRow : OpenClaim := { program := "ytplkockghigpdaadoor", sum := "3d5df770f55eb6342a5b3af7e2f69b84fbc2280aad5efaa1cdf12838ac5a0f5b", func := "loop.example/g03221/laws.FnExactKinship", spec := "fnExactKinship", unfollowed := true, recurses := true, named := ["math/bits.deBruijn32tab", "math/bits.deBruijn64tab"], apart := false, laid := [("math/bits.deBruijn32tab", laid_math_bits_deBruijn32tab), ("math/bits.deBruijn64tab", laid_math_bits_deBruijn64tab)], narrowed := true }
def FnExactKinshipUptoSaid : Prop := fnExactKinshipUptoRow.holds Tryd.pinned (OpenSpec.upto fnExactKinshipSpec)

/-- 'laws.FnExactInbreeding', WHERE WHAT IT READS IS OF BULK AT MOST 1048576: true; the input reads as it did. -/
def fnExactInbreedingUptoRow : OpenClaim := { program := "ytplkockghigpdaadoor", sum := "3d5df770f55eb6342a5b3af7e2f69b84fbc2280aad5efaa1cdf12838ac5a0f5b", func := "loop.example/g03221/laws.FnExactInbreeding", spec := "fnExactInbreeding", unfollowed := true, recurses := true, named := ["math/bits.deBruijn32tab", "math/bits.deBruijn64tab"], apart := false, laid := [("math/bits.deBruijn32tab", laid_math_bits_deBruijn32tab), ("math/bits.deBruijn64tab", laid_math_bits_deBruijn64tab)], narrowed := true }
def FnExactInbreedingUptoSaid : Prop := fnExactInbreedingUptoRow.holds Tryd.pinned (OpenSpec.upto fnExactInbreedingSpec)

/-- 'laws.FnExactKinshipByLines', WHERE WHAT IT READS IS OF BULK AT MOST 1048576: true; the input reads as it did. -/
def fnExactKinshipByLinesUptoRow : OpenClaim := { program := "ytplkockghigpdaadoor", sum := "3d5df770f55eb6342a5b3af7e2f69b84fbc2280aad5efaa1cdf12838ac5a0f5b", func := "loop.example/g03221/laws.FnExactKinshipByLines", spec := "fnExactKinshipByLines", unfollowed := true, recurses := true, named := ["math/bits.deBruijn32tab", "math/bits.deBruijn64tab"], apart := false, laid := [("math/bits.deBruijn32tab", laid_math_bits_deBruijn32tab), ("math/bits.deBruijn64tab", laid_math_bits_deBruijn64tab)], narrowed := true }
def FnExactKinshipByLinesUptoSaid : Prop := fnExactKinshipByLinesUptoRow.holds Tryd.pinned (OpenSpec.upto fnExactKinshipByLinesSpec)

/-- 'laws.FnDyads', WHERE WHAT IT READS IS OF BULK AT MOST 1048576: true; the input reads as it did. -/
def fnDyadsUptoRow : OpenClaim := { program := "ytplkockghigpdaadoor", sum := "3d5df770f55eb6342a5b3af7e2f69b84fbc2280aad5efaa1cdf12838ac5a0f5b", func := "loop.example/g03221/laws.FnDyads", spec := "fnDyads", named := ["math/bits.deBruijn32tab", "math/bits.deBruijn64tab"], apart := false, laid := [("math/bits.deBruijn32tab", laid_math_bits_deBruijn32tab), ("math/bits.deBruijn64tab", laid_math_bits_deBruijn64tab)], narrowed := true }
def FnDyadsUptoSaid : Prop := fnDyadsUptoRow.holds Tryd.pinned (OpenSpec.upto fnDyadsSpec)

/-- 'laws.FnKinship', WHERE WHAT IT READS IS OF BULK AT MOST 1048576: true; the input reads as it did. -/
def fnKinshipUptoRow : OpenClaim := { program := "ytplkockghigpdaadoor", sum := "3d5df770f55eb6342a5b3af7e2f69b84fbc2280aad5efaa1cdf12838ac5a0f5b", func := "loop.example/g03221/laws.FnKinship", spec := "fnKinship", unfollowed := true, recurses := true, named := ["math/bits.deBruijn32tab", "math/bits.deBruijn64tab"], apart := false, laid := [("math/bits.deBruijn32tab", laid_math_bits_deBruijn32tab), ("math/bits.deBruijn64tab", laid_math_bits_deBruijn64tab)], narrowed := true }
def FnKinshipUptoSaid : Prop := fnKinshipUptoRow.holds Tryd.pinned (OpenSpec.upto fnKinshipSpec)

/-- 'laws.FnWright', WHERE WHAT IT READS IS OF BULK AT MOST 1048576: true; the input reads as it did. -/
def fnWrightUptoRow : OpenClaim := { program := "ytplkockghigpdaadoor", sum := "3d5df770f55eb6342a5b3af7e2f69b84fbc2280aad5efaa1cdf12838ac5a0f5b", func := "loop.example/g03221/laws.FnWright", spec := "fnWright", unfollowed := true, recurses := true, named := ["math/bits.deBruijn32tab", "math/bits.deBruijn64tab"], apart := false, laid := [("math/bits.deBruijn32tab", laid_math_bits_deBruijn32tab), ("math/bits.deBruijn64tab", laid_math_bits_deBruijn64tab)], narrowed := true }
def FnWrightUptoSaid : Prop := fnWrightUptoRow.holds Tryd.pinned (OpenSpec.upto fnWrightSpec)

end Rows
end Go.Proofs.YtplkockghigpdaaDoor
