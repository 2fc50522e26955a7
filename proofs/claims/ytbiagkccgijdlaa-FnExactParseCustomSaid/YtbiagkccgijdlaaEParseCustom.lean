/- For all arguments, laws.FnExactParseCustom returns true: the program's ParseCustom answers as the model's does, and leaves its arguments as they are. No condition. -/
import Derived.Test.YtbiagkccgijdlaaEWGE
import Derived.Test.YtbiagkccgijdlaaEWGA
import Derived.Test.YtbiagkccgijdlaaELgWS
import Derived.Test.YtbiagkccgijdlaaESeat
import Derived.WalkKit
import Derived.ProofKit
import Derived.OpenShut
import Derived.ShutString
import Derived.ChangeOld
import Derived.Below
import Derived.ReadAgain
import Derived.ChangeBook
import Derived.HandedShaped
namespace Go.Proofs.Ytbiagkccgijdlaa.fnExactParseCustom
open Go.ChangeShapes Go.WideShapes Go.ChangeAt Go.RowKit
open Go.ChangeMaps (open_string shut_string)
open Go.Lg
set_option linter.unusedVariables false      -- a walk need not use every 'w<i>' (that an integer argument fits its kind)

theorem hread : ∀ r ∈ ([9] : List TypeId), Try.prog.readableRec r = true := by
  intro r hr
  simp at hr
  rcases hr with rfl <;> kernel_rfl
theorem inbook : ∀ t ∈ #[9].toList, InBooks Try.prog [9] t := by
  intro t ht
  have hm : t ∈ ([9] : List TypeId) := (by decide : ∀ t ∈ (#[9] : Array TypeId).toList, t ∈ ([9] : List TypeId)) t ht
  refine ⟨t, hm, ?_, book_self t⟩
  simp at hm
  rcases hm with rfl <;> exact of_decide_eq_true (by kernel_rfl)

/-! ### THE ROW's STEP: WRITTEN OUT: LEAVE IT -/
set_option maxRecDepth 100000 in
theorem lifted (os : Os) (started : os.Started) (H : Type) (enc : TypeId × Value → H) :
    ReturnsInHanded {} Try.checked os 5 .any (Rows.fnExactParseCustomSpec.pre6 enc Try.prog Try.f5 Rows.fnExactParseCustomRow.domain false) (Rows.fnExactParseCustomSpec.post enc Try.prog Try.f5 false true false false) := by
  refine returnsInHanded_of_change_shaped (C := Try.checked) Seat.own started (by kernel_rfl) Try.func5
    (ChangeSpec.witness6 (enc := enc) (C := Try.checked) false ⟨#[], #[.string ByteArray.empty], []⟩ 8 (by kernel_rfl) (by kernel_rfl) (by kernel_rfl) (by kernel_rfl)) ?_
  intro W base args ds gs before hval0 hW hcnd _ hsh _
  have hval : ∀ (j : Nat) t v, Try.f5.params[j]? = some t → args[j]? = some v → Value.okWide Try.prog W .any base t v := hval0
  have hW' := hW
  obtain ⟨p, q, hA0, hV, rfl, hfz, hnd⟩ := hW
  have hA : DataW.TrodAll enc Try.prog W 0 (fun _ => true) true Try.f5.params.toList args.toList ds p := hA0
  rw [Try.params5] at hA hval
  obtain ⟨v0, vs0, d0, ds0, p0, q0, hargs, rfl, rfl, h0, r0⟩ := trodAll_cons hA
  obtain ⟨rfl, rfl, rfl⟩ := trodAll_nil r0
  obtain rfl : args = #[v0] := by cases args; simp_all
  obtain ⟨rfl, rfl⟩ := trodVars_none hV
  obtain ⟨y0, s0, g0⟩ := arg_of_trod (O := fun _ => False) (fun _ h => h) (s := .str) (by kernel_rfl) (hval 0 9 v0 rfl rfl) h0
  obtain ⟨a0_0, rfl, f0⟩ := str_of_sh s0
  have law := (law_parseCustom a0_0 f0).run W (fun _ => False) #[v0] (gi_of hsh) (fun b h => h.elim) rfl fun i x v hx hv => by
    match i with
    | 0 => simp at hx hv; subst hx; subst hv; exact g0
    | i + 1 => simp at hx
  refine law.mono fun e W' ⟨v, he, bel, res⟩ => ?_
  subst he
  obtain ⟨bs, _, hr⟩ := res
  have hv : v = .bool true := by have h := hr; simp [RR, RR1, RRc, RC] at h; exact h.1
  subst hv
  have hA' := hA0
  rw [Try.params5] at hA'
  refine ⟨_, rfl, _, _, _, [], _, [], hW', trodAll_mk1 (shut_bool Try.underlying4 _), DataW.TrodAll.respare (kids_books Seat.laidOut hread) (fun _ _ => books_sized hread) (fun t ht => inbook t ht) (trodAll_carry hA' fun p hp => bel.same (DataW.TrodAll.lt hA' p hp)) (fun p hp => decide_eq_true (DataW.TrodAll.lt hA' p hp)), rfl, bel.frame _, fun h => by cases h⟩

theorem unf : Try.prog.unfollowed 5 = Rows.fnExactParseCustomRow.unfollowed := by kernel_rfl
theorem rcs : Try.prog.recurses 5 = Rows.fnExactParseCustomRow.recurses := by kernel_rfl
theorem nmd : Try.prog.varsNamed 5 = Rows.fnExactParseCustomRow.named := by kernel_rfl
theorem inp : Try.prog.inPlace 5 = Rows.fnExactParseCustomRow.inPlace := by kernel_rfl
theorem fnd : Try.prog.funcNamed Rows.fnExactParseCustomRow.func = some 5 := by kernel_rfl
theorem closed : joinedFacts Try.prog 5 Try.f5 Rows.fnExactParseCustomSpec Rows.fnExactParseCustomRow = true :=
  Seat.joined_of Seat.laidOut Seat.maps Seat.stops Seat.knobs Seat.keys Seat.heard Seat.enter Seat.lifts Seat.make rfl rfl rfl rfl rfl rfl
    inp.symm unf.symm rcs.symm nmd.symm (by kernel_rfl) (by kernel_rfl) (by kernel_rfl) (by kernel_rfl) (by kernel_rfl) (by kernel_rfl) (by kernel_rfl) (by kernel_rfl)
    (by kernel_rfl) (by kernel_rfl) (by kernel_rfl) (by kernel_rfl) (by kernel_rfl) (by kernel_rfl) (by kernel_rfl) (by kernel_rfl)
theorem inst : Try.f5.isInstance Try.prog Rows.fnExactParseCustomRow.origin Rows.fnExactParseCustomRow.targs := of_decide_eq_true (by kernel_rfl)
theorem wrap : Try.f5.isWrapper Try.prog Rows.fnExactParseCustomRow.wrapper Rows.fnExactParseCustomRow.mainSum := by
  unfold Func.isWrapper; rw [if_neg (by decide +kernel)]; exact ⟨rfl, rfl⟩
theorem over : Rows.fnExactParseCustomRow.holds Try.pinned (OpenSpec.ofChange Rows.fnExactParseCustomSpec) :=
  OpenClaim.holds_of_wide 5 Try.f5 rfl rfl rfl rfl rfl rfl rfl ⟨rfl, rfl, rfl, rfl, rfl⟩ rfl rfl rfl rfl rfl fnd Try.func5 closed inst wrap
    (fun os started H enc _ => lifted os started H enc)

/-- THE STATEMENT -/
theorem proved : Rows.FnExactParseCustomSaid :=
  over
#print axioms proved
end Go.Proofs.Ytbiagkccgijdlaa.fnExactParseCustom

