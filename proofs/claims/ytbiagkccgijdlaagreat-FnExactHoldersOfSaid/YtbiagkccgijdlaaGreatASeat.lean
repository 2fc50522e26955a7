/- The closed facts of the program that hold for every statement of this seat, each by a computation of its own. -/
import Derived.Test.YtbiagkccgijdlaaGreatRows
import Derived.WalkKit
import Derived.ProofKit
import Derived.OpenShut
import Derived.ShutString
import Derived.ChangeOld
import Derived.Below
namespace Go.Proofs.YtbiagkccgijdlaaGreat
namespace Seat
theorem words_app (w r : List Char) (h : w.all (fun c => c != Char.ofNat 32) = true) : wordsSigns (w ++ Char.ofNat 32 :: r) = w :: wordsSigns r := by
  induction w with
  | nil => rfl
  | cons c w ih =>
    simp only [List.all_cons, Bool.and_eq_true, bne_iff_ne, ne_eq] at h
    have e := ih h.2
    rw [List.cons_append, wordsSigns.eq_3 _ _ h.1, e]
def cs (l : List Nat) : List Char := l.map Char.ofNat
def signs1 : List Nat := [104, 97, 114, 110, 101, 115, 115]
def signs2 : List Nat := [102, 54, 101, 54, 55, 99, 56, 54, 48, 55, 48, 53, 99, 100, 53, 50, 57, 99, 52, 54, 101, 98, 51, 55, 52, 55, 98, 55, 53, 48, 49, 56, 51, 49, 99, 48, 57, 98, 50, 97,
  101, 55, 48, 55, 98, 57, 101, 56, 56, 51, 101, 56, 50, 52, 51, 98, 53, 49, 51, 57, 57, 100, 56, 102]
def signs3 : List Nat := [99, 117, 116]
def signs4 : List Nat := [97, 116, 32, 108, 111, 111, 112, 46, 101, 120, 97, 109, 112, 108, 101, 47, 103, 48, 51, 50, 50, 49, 47, 108, 97, 119, 115, 46, 70, 110, 69, 120, 97, 99, 116, 72, 111, 108, 100, 101,
  114, 115, 79, 102, 32, 108, 111, 111, 112, 46, 101, 120, 97, 109, 112, 108, 101, 47, 103, 48, 51, 50, 50, 49, 47, 108, 97, 119, 115, 46, 70, 110, 69, 120, 97, 99, 116, 65, 117, 100,
  105, 116, 85, 110, 105, 111, 110, 115]
def signs : List Char := cs signs1 ++ Char.ofNat 32 :: (cs signs2 ++ Char.ofNat 32 :: (cs signs3 ++ Char.ofNat 32 :: cs signs4))
theorem head_eq : Tryz.prog.initOrder = String.ofList signs := by kernel_rfl
theorem words : ∃ rest, behindMainWord (wordsSigns Tryz.prog.initOrder.toList) = cs signs3 :: rest := by
  refine ⟨wordsSigns (cs signs4), ?_⟩
  rw [head_eq, String.toList_ofList]
  unfold signs
  rw [words_app _ _ (by decide +kernel), words_app _ _ (by decide +kernel), words_app _ _ (by decide +kernel)]
  have e : ((cs signs1 == "harness".toList || cs signs1 == "ownmain".toList) && isSumSigns (cs signs2)) = true := by kernel_rfl
  simp only [behindMainWord, e, if_true]
theorem lays : Tryz.prog.laysLater = false := by kernel_rfl
theorem bears : Tryz.prog.bearsReflect = false := by kernel_rfl
theorem door : Tryz.prog.doorFits [] = true := by kernel_rfl
theorem head (rest : List (List Char)) : stripLifts liftWords (cs signs3 :: rest) = ([], cs signs3 :: rest) := by kernel_rfl
theorem enter_of (P : Program) (rest : List (List Char)) (h : behindMainWord (wordsSigns P.initOrder.toList) = cs signs3 :: rest)
    (lays : P.laysLater = false) (bears : P.bearsReflect = false) (door : P.doorFits [] = true) : P.mayEnter = true := by
  unfold Program.mayEnter
  rw [h]
  have e1 : (cs signs3 == "gc".toList) = false := by kernel_rfl
  have e2 : (cs signs3 == "spec".toList) = false := by kernel_rfl
  have e3 : (cs signs3 == "carried".toList) = false := by kernel_rfl
  have e4 : ((cs signs3 :: rest).head? == some "cut".toList) = true := by kernel_rfl
  have e5 : (([] : List String).contains "reflectrows") = false := by kernel_rfl
  have e6 : (([] : List String).contains "leanrows") = false := by kernel_rfl
  simp only [head, lays, bears, door, e1, e2, e3, e4, e5, e6, Bool.false_and, Bool.not_false, Bool.or_true, Bool.and_true, Bool.or_self, Bool.and_self]
theorem headLifts_of (P : Program) (rest : List (List Char)) (h : behindMainWord (wordsSigns P.initOrder.toList) = cs signs3 :: rest) : P.headLifts = [] := by
  unfold Program.headLifts
  rw [h]
  simp only [head]
  kernel_rfl
theorem lifts_of (P : Program) (rest : List (List Char)) (h : behindMainWord (wordsSigns P.initOrder.toList) = cs signs3 :: rest) : P.liftsFinal = false := by
  unfold Program.liftsFinal
  rw [h, headLifts_of P rest h]
  kernel_rfl
theorem make_of (P : Program) (rest : List (List Char)) (h : behindMainWord (wordsSigns P.initOrder.toList) = cs signs3 :: rest) : P.make = some .cut := by
  unfold Program.make
  rw [h]
  have e1 : (cs signs3 == "gc".toList) = false := by kernel_rfl
  have e2 : (cs signs3 == "spec".toList) = false := by kernel_rfl
  have e3 : (cs signs3 == "cut".toList) = true := by kernel_rfl
  simp only [e1, e2, e3, Bool.true_or, Bool.or_self, if_true, if_false, Bool.false_eq_true]
theorem enter : Tryz.prog.mayEnter = true := words.elim fun rest h => enter_of _ rest h lays bears door
theorem lifts : Tryz.prog.liftsFinal = false := words.elim fun rest h => lifts_of _ rest h
theorem make : Tryz.prog.make = some .cut := words.elim fun rest h => make_of _ rest h
theorem own : ownKnob Tryz.prog.godebug = none := by kernel_rfl
theorem laidOut : laidOutB Tryz.prog = true := by kernel_rfl
theorem maps : mapsRowed Tryz.prog = true := by kernel_rfl
theorem stops : Tryz.prog.stops = [] := by kernel_rfl
theorem knobs : Tryz.prog.stopKnobs = [] := by kernel_rfl
theorem keys : Tryz.prog.plainKeys = true := by kernel_rfl
theorem heard : Tryz.prog.stopsHeard = true := by kernel_rfl
theorem am {a b : Bool} (h : a = true) (k : b = true) : (a && b) = true := by rw [h, k]; rfl
/-- The row's closed facts, put together: each conjunct is a premise of its own, so that the kernel computes each alone. -/
theorem joined_of {P : Program} {f : FuncId} {fn : Func} {s : ChangeSpec} {c : OpenClaim}
    (laid : laidOutB P = true) (maps : mapsRowed P = true) (st : P.stops = []) (kn : P.stopKnobs = []) (keys : P.plainKeys = true) (heard : P.stopsHeard = true)
    (enter : P.mayEnter = true) (lifts : P.liftsFinal = false) (make : P.make = some .cut)
    (cst : c.stops = []) (ckn : c.knobs = []) (cke : c.plainKeys = true) (clf : c.lifted = false) (cmk : c.make = .cut) (csh : c.shortTexts.isNone = true)
    (inp : c.inPlace = P.inPlace f) (unf : c.unfollowed = P.unfollowed f) (rcs : c.recurses = P.recurses f) (nmd : c.named = P.varsNamed f)
    (wf : c.wf (OpenSpec.ofChange s) = true) (par : fn.params.all (P.readableRec ·) = true) (tie : namedTie P c.named s.vars = true)
    (mps : (c.maps == (fn.params.toList ++ s.plain.varTypes P).any (P.mapsRec ·)) = true) (ifc : (c.ifaces == (fn.params.toList ++ s.plain.varTypes P).any (P.ifacesRec ·)) = true)
    (mo : (c.mapsOut == P.mapsAmong fn.resultTypes.toList) = true) (lps : (c.loops == (fn.params.toList ++ s.plain.varTypes P).any (P.loopsFrom ·)) = true)
    (wk : (c.wideKeys == (fn.params.toList ++ s.plain.varTypes P ++ fn.resultTypes.toList).any (P.wideKeysFrom ·)) = true)
    (vr : s.vars.all (P.varReadable ·) = true) (rt : fn.resultTypes.all (fun t => P.readableRec t && decide (t < P.types.size)) = true)
    (io : (c.ifacesOut == fn.resultTypes.toList.any (P.ifacesRec ·)) = true) (lo : (c.loopsOut == fn.resultTypes.toList.any (P.loopsFrom ·)) = true)
    (kds : (c.kinds == (if c.domain.isEmpty then [] else fn.params.toList.map fun t => match P.underlying t with | some (.int k) => some k | _ => none)) = true)
    (pin : (c.pinned == c.pinnedBy) = true)
    (vl : (c.veiled == (fn.params.toList ++ s.plain.varTypes P ++ fn.resultTypes.toList).any (P.veiledRec ·)) = true)
    (vf : c.veiledFits P fn.params.toList (fn.params.toList ++ s.plain.varTypes P ++ fn.resultTypes.toList) = true) :
    joinedFacts P f fn s c = true := by
  unfold joinedFacts
  have e1 : (c.stops == []) = true := by rw [cst]; rfl
  have e2 : (P.stops == []) = true := by rw [st]; rfl
  have e3 : (c.knobs == []) = true := by rw [ckn]; rfl
  have e4 : (P.stopKnobs == []) = true := by rw [kn]; rfl
  have e5 : (c.inPlace == P.inPlace f) = true := by rw [inp]; exact beq_self_eq_true _
  have e6 : (c.unfollowed == P.unfollowed f) = true := by rw [unf]; exact beq_self_eq_true _
  have e7 : (c.recurses == P.recurses f) = true := by rw [rcs]; exact beq_self_eq_true _
  have e8 : (c.named == P.varsNamed f) = true := by rw [nmd]; exact beq_self_eq_true _
  have e9 : (c.plainKeys == P.plainKeys) = true := by rw [cke, keys]; rfl
  have e10 : (c.lifted == P.liftsFinal) = true := by rw [clf, lifts]; rfl
  have e11 : (P.make == some c.make) = true := by rw [make, cmk]; rfl
  exact am (am (am (am (am (am (am (am (am (am (am (am (am (am (am (am (am (am (am (am (am (am (am (am (am (am (am (am (am (am (am wf laid) maps) par) tie) e1) e2) e3) e4) e5) e6) e7) e8) mps) ifc) mo) lps) wk) vr) rt) io) lo) e9) csh) heard) enter) e10) e11) kds) pin) vl) vf
end Seat
end Go.Proofs.YtbiagkccgijdlaaGreat

