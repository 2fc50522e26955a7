/- For all arguments, laws.FnExactMarriedAt returns true: the program's MarriedAt answers as the model's does, and leaves its arguments as they are. No condition. -/
import Derived.Test.YtikbpfcehgmmnaaBP4
import Derived.Test.YtikbpfcehgmmnaaBT7
import Derived.Test.YtikbpfcehgmmnaaBSeat
import Derived.WalkKit
import Derived.ProofKit
import Derived.OpenShut
import Derived.ShutString
import Derived.ChangeOld
import Derived.Below
import Derived.ReadAgain
import Derived.ChangeBook
namespace Go.Proofs.Ytikbpfcehgmmnaa.fnExactMarriedAt
open Go.ChangeShapes Go.WideShapes Go.ChangeAt Go.RowKit
open Go.ChangeMaps (open_string shut_string)
open Go.Lg
set_option linter.unusedVariables false      -- a walk need not use every 'w<i>' (that an integer argument fits its kind)

theorem hread : Try.prog.readableRec 38 = true := by kernel_rfl
theorem inbook : ∀ t ∈ #[38, 3, 3].toList, InBook Try.prog 38 t := by
  have h3 : InBook Try.prog 38 3 := ⟨of_decide_eq_true (by kernel_rfl), of_decide_eq_true (by kernel_rfl)⟩
  have h38 : InBook Try.prog 38 38 := ⟨of_decide_eq_true (by kernel_rfl), book_self 38⟩
  intro t ht
  simp at ht
  rcases ht with rfl | rfl <;> first
  | exact h3
  | exact h38

/-! ### THE ROW's STEP: WRITTEN OUT: LEAVE IT -/
set_option maxRecDepth 100000 in
theorem lifted (os : Os) (started : os.Started) (H : Type) (enc : TypeId × Value → H) :
    ReturnsInHanded {} Try.checked os 17 .any (Rows.fnExactMarriedAtSpec.pre6 enc Try.prog Try.f17 Rows.fnExactMarriedAtRow.domain false) (Rows.fnExactMarriedAtSpec.post enc Try.prog Try.f17 false true false false) := by
  refine returnsInHanded_of_change (C := Try.checked) Seat.own started (by kernel_rfl) Try.func17
    (ChangeSpec.witness6 (enc := enc) (C := Try.checked) false ⟨#[], #[.agg #[.slice none 0 0, .slice none 0 0], .int .i64 0, .int .i64 0], []⟩ 8 (by kernel_rfl) (by kernel_rfl) (by kernel_rfl) (by kernel_rfl)) ?_
  intro W base args ds gs before hval0 hW hcnd _
  have hval : ∀ (j : Nat) t v, Try.f17.params[j]? = some t → args[j]? = some v → Value.okWide Try.prog W .any base t v := hval0
  have hW' := hW
  obtain ⟨p, q, hA0, hV, rfl, hfz, hnd⟩ := hW
  have hA : DataW.TrodAll enc Try.prog W 0 (fun _ => true) true Try.f17.params.toList args.toList ds p := hA0
  rw [Try.params17] at hA hval
  obtain ⟨v0, vs0, d0, ds0, p0, q0, hargs, rfl, rfl, h0, r0⟩ := trodAll_cons hA
  obtain ⟨v1, vs1, d1, ds1, p1, q1, rfl, rfl, rfl, h1, r1⟩ := trodAll_cons r0
  obtain ⟨v2, vs2, d2, ds2, p2, q2, rfl, rfl, rfl, h2, r2⟩ := trodAll_cons r1
  obtain ⟨rfl, rfl, rfl⟩ := trodAll_nil r2
  obtain rfl : args = #[v0, v1, v2] := by cases args; simp_all
  obtain ⟨rfl, rfl⟩ := trodVars_none hV
  obtain ⟨ps0, us0, f0, g0⟩ := fam_of_arg (hval 0 38 v0 rfl rfl) h0
  obtain ⟨n1, en1, _, _, _⟩ := open_int Try.underlying3 (hval 1 3 v1 rfl rfl) h1
  have g1 : RT (pctx (fun _ => False) W) (.int .i64 n1) v1 := by rw [en1]; exact RT_mk_int _ _ _
  obtain ⟨n2, en2, _, _, _⟩ := open_int Try.underlying3 (hval 2 3 v2 rfl rfl) h2
  have g2 : RT (pctx (fun _ => False) W) (.int .i64 n2) v2 := by rw [en2]; exact RT_mk_int _ _ _
  have law := (law_marriedAt ps0 us0 n1 n2 f0).run W (fun _ => False) #[v0, v1, v2] (fun b h => h.elim) rfl fun i x v hx hv => by
    match i with
    | 0 => simp at hx hv; subst hx; subst hv; exact g0
    | 1 => simp at hx hv; subst hx; subst hv; exact g1
    | 2 => simp at hx hv; subst hx; subst hv; exact g2
    | i + 3 => simp at hx
  refine law.mono fun e W' ⟨v, he, bel, res⟩ => ?_
  subst he
  obtain ⟨bs, _, hr⟩ := res
  have hv : v = .bool true := by have h := hr; simp [RR, RR1, RRc, RC] at h; exact h.1
  subst hv
  have hA' := hA0
  rw [Try.params17] at hA'
  refine ⟨_, rfl, _, _, _, [], _, [], hW', trodAll_mk1 (shut_bool Try.underlying4 _), DataW.TrodAll.respare (kids_book Seat.laidOut hread) (fun _ _ => book_sized hread) (fun t ht => inbook t ht) (trodAll_carry hA' fun p hp => bel.same (DataW.TrodAll.lt hA' p hp)) (fun p hp => decide_eq_true (DataW.TrodAll.lt hA' p hp)), rfl, bel.frame _, fun h => by cases h⟩

theorem unf : Try.prog.unfollowed 17 = Rows.fnExactMarriedAtRow.unfollowed := by kernel_rfl
theorem rcs : Try.prog.recurses 17 = Rows.fnExactMarriedAtRow.recurses := by kernel_rfl
theorem nmd : Try.prog.varsNamed 17 = Rows.fnExactMarriedAtRow.named := by kernel_rfl
theorem inp : Try.prog.inPlace 17 = Rows.fnExactMarriedAtRow.inPlace := by kernel_rfl
theorem fnd : Try.prog.funcNamed Rows.fnExactMarriedAtRow.func = some 17 := by kernel_rfl
theorem closed : joinedFacts Try.prog 17 Try.f17 Rows.fnExactMarriedAtSpec Rows.fnExactMarriedAtRow = true :=
  Seat.joined_of Seat.laidOut Seat.maps Seat.stops Seat.knobs Seat.keys Seat.heard Seat.enter Seat.lifts Seat.make rfl rfl rfl rfl rfl rfl
    inp.symm unf.symm rcs.symm nmd.symm (by kernel_rfl) (by kernel_rfl) (by kernel_rfl) (by kernel_rfl) (by kernel_rfl) (by kernel_rfl) (by kernel_rfl) (by kernel_rfl)
    (by kernel_rfl) (by kernel_rfl) (by kernel_rfl) (by kernel_rfl) (by kernel_rfl) (by kernel_rfl) (by kernel_rfl) (by kernel_rfl)
theorem inst : Try.f17.isInstance Try.prog Rows.fnExactMarriedAtRow.origin Rows.fnExactMarriedAtRow.targs := of_decide_eq_true (by kernel_rfl)
theorem wrap : Try.f17.isWrapper Try.prog Rows.fnExactMarriedAtRow.wrapper Rows.fnExactMarriedAtRow.mainSum := by
  unfold Func.isWrapper; rw [if_neg (by decide +kernel)]; exact ⟨rfl, rfl⟩
theorem over : Rows.fnExactMarriedAtRow.holds Try.pinned (OpenSpec.ofChange Rows.fnExactMarriedAtSpec) :=
  OpenClaim.holds_of_wide 17 Try.f17 rfl rfl rfl rfl rfl rfl rfl ⟨rfl, rfl, rfl, rfl, rfl⟩ rfl rfl rfl rfl rfl fnd Try.func17 closed inst wrap
    (fun os started H enc _ => lifted os started H enc)

/-- THE STATEMENT -/
theorem proved : Rows.FnExactMarriedAtSaid :=
  over
#print axioms proved
end Go.Proofs.Ytikbpfcehgmmnaa.fnExactMarriedAt
