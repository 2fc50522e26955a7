/- For all arguments, laws.FnExactHeirOf returns true: the program's HeirOf answers as the model's does, and leaves its arguments as they are. No condition. -/
import Derived.Test.YtbiagkccgijdlaaEWGE
import Derived.Test.YtbiagkccgijdlaaEWGA
import Derived.Test.YtbiagkccgijdlaaELgWS
import Derived.Test.YtbiagkccgijdlaaESeat
import Derived.WalkKit
import Derived.ProofKit
import Derived.OpenShut
import Derived.ShutString
import Derived.ChangeOld
import Derived.Below
import Derived.ReadAgain
import Derived.ChangeBook
import Derived.HandedShaped
namespace Go.Proofs.Ytbiagkccgijdlaa.fnExactHeirOf
open Go.ChangeShapes Go.WideShapes Go.ChangeAt Go.RowKit
open Go.ChangeMaps (open_string shut_string)
open Go.Lg
set_option linter.unusedVariables false      -- a walk need not use every 'w<i>' (that an integer argument fits its kind)

theorem hread : ∀ r ∈ ([3, 23, 36] : List TypeId), Try.prog.readableRec r = true := by
  intro r hr
  simp at hr
  rcases hr with rfl | rfl | rfl <;> kernel_rfl
theorem inbook : ∀ t ∈ #[36, 23, 3, 3].toList, InBooks Try.prog [3, 23, 36] t := by
  intro t ht
  have hm : t ∈ ([3, 23, 36] : List TypeId) := (by decide : ∀ t ∈ (#[36, 23, 3, 3] : Array TypeId).toList, t ∈ ([3, 23, 36] : List TypeId)) t ht
  refine ⟨t, hm, ?_, book_self t⟩
  simp at hm
  rcases hm with rfl | rfl | rfl <;> exact of_decide_eq_true (by kernel_rfl)

/-! ### THE ROW's STEP: WRITTEN OUT: LEAVE IT -/
set_option maxRecDepth 100000 in
theorem lifted (os : Os) (started : os.Started) (H : Type) (enc : TypeId × Value → H) :
    ReturnsInHanded {} Try.checked os 9 .any (Rows.fnExactHeirOfSpec.pre6 enc Try.prog Try.f9 Rows.fnExactHeirOfRow.domain false) (Rows.fnExactHeirOfSpec.post enc Try.prog Try.f9 false true false false) := by
  refine returnsInHanded_of_change_shaped (C := Try.checked) Seat.own started (by kernel_rfl) Try.func9
    (ChangeSpec.witness6 (enc := enc) (C := Try.checked) false ⟨#[], #[.agg #[.slice none 0 0, .slice none 0 0], .agg #[.int .i64 0, .bool false, .bool false], .int .i64 0, .int .i64 0], []⟩ 8 (by kernel_rfl) (by kernel_rfl) (by kernel_rfl) (by kernel_rfl)) ?_
  intro W base args ds gs before hval0 hW hcnd _ hsh _
  have hval : ∀ (j : Nat) t v, Try.f9.params[j]? = some t → args[j]? = some v → Value.okWide Try.prog W .any base t v := hval0
  have hW' := hW
  obtain ⟨p, q, hA0, hV, rfl, hfz, hnd⟩ := hW
  have hA : DataW.TrodAll enc Try.prog W 0 (fun _ => true) true Try.f9.params.toList args.toList ds p := hA0
  rw [Try.params9] at hA hval
  obtain ⟨v0, vs0, d0, ds0, p0, q0, hargs, rfl, rfl, h0, r0⟩ := trodAll_cons hA
  obtain ⟨v1, vs1, d1, ds1, p1, q1, rfl, rfl, rfl, h1, r1⟩ := trodAll_cons r0
  obtain ⟨v2, vs2, d2, ds2, p2, q2, rfl, rfl, rfl, h2, r2⟩ := trodAll_cons r1
  obtain ⟨v3, vs3, d3, ds3, p3, q3, rfl, rfl, rfl, h3, r3⟩ := trodAll_cons r2
  obtain ⟨rfl, rfl, rfl⟩ := trodAll_nil r3
  obtain rfl : args = #[v0, v1, v2, v3] := by cases args; simp_all
  obtain ⟨rfl, rfl⟩ := trodVars_none hV
  obtain ⟨y0, s0, g0⟩ := arg_of_trod (O := fun _ => False) (fun _ h => h) (s := shFam) (by kernel_rfl) (hval 0 36 v0 rfl rfl) h0
  obtain ⟨a0_0, a0_1, rfl, f0⟩ := fam_of_sh s0
  obtain ⟨y1, s1, g1⟩ := arg_of_trod (O := fun _ => False) (fun _ h => h) (s := shCus) (by kernel_rfl) (hval 1 23 v1 rfl rfl) h1
  obtain ⟨a1_0, rfl, f1⟩ := cus_of_sh s1
  obtain ⟨y2, s2, g2⟩ := arg_of_trod (O := fun _ => False) (fun _ h => h) (s := (.int .i64)) (by kernel_rfl) (hval 2 3 v2 rfl rfl) h2
  obtain ⟨a2_0, rfl, f2⟩ := int_of_sh s2
  obtain ⟨y3, s3, g3⟩ := arg_of_trod (O := fun _ => False) (fun _ h => h) (s := (.int .i64)) (by kernel_rfl) (hval 3 3 v3 rfl rfl) h3
  obtain ⟨a3_0, rfl, f3⟩ := int_of_sh s3
  have law := (law_heirOf a0_0 a0_1 a1_0 a2_0 a3_0 f0).run W (fun _ => False) #[v0, v1, v2, v3] (gi_of hsh) (fun b h => h.elim) rfl fun i x v hx hv => by
    match i with
    | 0 => simp at hx hv; subst hx; subst hv; exact g0
    | 1 => simp at hx hv; subst hx; subst hv; exact g1
    | 2 => simp at hx hv; subst hx; subst hv; exact g2
    | 3 => simp at hx hv; subst hx; subst hv; exact g3
    | i + 4 => simp at hx
  refine law.mono fun e W' ⟨v, he, bel, res⟩ => ?_
  subst he
  obtain ⟨bs, _, hr⟩ := res
  have hv : v = .bool true := by have h := hr; simp [RR, RR1, RRc, RC] at h; exact h.1
  subst hv
  have hA' := hA0
  rw [Try.params9] at hA'
  refine ⟨_, rfl, _, _, _, [], _, [], hW', trodAll_mk1 (shut_bool Try.underlying4 _), DataW.TrodAll.respare (kids_books Seat.laidOut hread) (fun _ _ => books_sized hread) (fun t ht => inbook t ht) (trodAll_carry hA' fun p hp => bel.same (DataW.TrodAll.lt hA' p hp)) (fun p hp => decide_eq_true (DataW.TrodAll.lt hA' p hp)), rfl, bel.frame _, fun h => by cases h⟩

theorem unf : Try.prog.unfollowed 9 = Rows.fnExactHeirOfRow.unfollowed := by kernel_rfl
theorem rcs : Try.prog.recurses 9 = Rows.fnExactHeirOfRow.recurses := by kernel_rfl
theorem nmd : Try.prog.varsNamed 9 = Rows.fnExactHeirOfRow.named := by kernel_rfl
theorem inp : Try.prog.inPlace 9 = Rows.fnExactHeirOfRow.inPlace := by kernel_rfl
theorem fnd : Try.prog.funcNamed Rows.fnExactHeirOfRow.func = some 9 := by kernel_rfl
theorem closed : joinedFacts Try.prog 9 Try.f9 Rows.fnExactHeirOfSpec Rows.fnExactHeirOfRow = true :=
  Seat.joined_of Seat.laidOut Seat.maps Seat.stops Seat.knobs Seat.keys Seat.heard Seat.enter Seat.lifts Seat.make rfl rfl rfl rfl rfl rfl
    inp.symm unf.symm rcs.symm nmd.symm (by kernel_rfl) (by kernel_rfl) (by kernel_rfl) (by kernel_rfl) (by kernel_rfl) (by kernel_rfl) (by kernel_rfl) (by kernel_rfl)
    (by kernel_rfl) (by kernel_rfl) (by kernel_rfl) (by kernel_rfl) (by kernel_rfl) (by kernel_rfl) (by kernel_rfl) (by kernel_rfl)
theorem inst : Try.f9.isInstance Try.prog Rows.fnExactHeirOfRow.origin Rows.fnExactHeirOfRow.targs := of_decide_eq_true (by kernel_rfl)
theorem wrap : Try.f9.isWrapper Try.prog Rows.fnExactHeirOfRow.wrapper Rows.fnExactHeirOfRow.mainSum := by
  unfold Func.isWrapper; rw [if_neg (by decide +kernel)]; exact ⟨rfl, rfl⟩
theorem over : Rows.fnExactHeirOfRow.holds Try.pinned (OpenSpec.ofChange Rows.fnExactHeirOfSpec) :=
  OpenClaim.holds_of_wide 9 Try.f9 rfl rfl rfl rfl rfl rfl rfl ⟨rfl, rfl, rfl, rfl, rfl⟩ rfl rfl rfl rfl rfl fnd Try.func9 closed inst wrap
    (fun os started H enc _ => lifted os started H enc)

/-- THE STATEMENT -/
theorem proved : Rows.FnExactHeirOfSaid :=
  over
#print axioms proved
end Go.Proofs.Ytbiagkccgijdlaa.fnExactHeirOf

