/- For all arguments, laws.FnExactHoldersOf returns true: the program's HoldersOf answers as the model's does, and leaves its arguments as they are. No condition. -/
import Derived.Test.YtbiagkccgijdlaaGreatAWGF
import Derived.Test.YtbiagkccgijdlaaGreatAWGA
import Derived.Test.YtbiagkccgijdlaaGreatALgWS
import Derived.Test.YtbiagkccgijdlaaGreatASeat
import Derived.WalkKit
import Derived.ProofKit
import Derived.OpenShut
import Derived.ShutString
import Derived.ChangeOld
import Derived.Below
import Derived.ReadAgain
import Derived.ChangeBook
import Derived.HandedShaped
namespace Go.Proofs.YtbiagkccgijdlaaGreat.fnExactHoldersOf
open Go.ChangeShapes Go.WideShapes Go.ChangeAt Go.RowKit
open Go.ChangeMaps (open_string shut_string)
open Go.Lg
set_option linter.unusedVariables false      -- a walk need not use every 'w<i>' (that an integer argument fits its kind)

theorem hread : ∀ r ∈ ([3, 25, 27] : List TypeId), Tryz.prog.readableRec r = true := by
  intro r hr
  simp at hr
  rcases hr with rfl | rfl | rfl <;> kernel_rfl
theorem inbook : ∀ t ∈ #[25, 27, 3].toList, InBooks Tryz.prog [3, 25, 27] t := by
  intro t ht
  have hm : t ∈ ([3, 25, 27] : List TypeId) := (by decide : ∀ t ∈ (#[25, 27, 3] : Array TypeId).toList, t ∈ ([3, 25, 27] : List TypeId)) t ht
  refine ⟨t, hm, ?_, book_self t⟩
  simp at hm
  rcases hm with rfl | rfl | rfl <;> exact of_decide_eq_true (by kernel_rfl)

/-! ### THE ROW's STEP: WRITTEN OUT: LEAVE IT -/
set_option maxRecDepth 100000 in
theorem lifted (os : Os) (started : os.Started) (H : Type) (enc : TypeId × Value → H) :
    ReturnsInHanded {} Tryz.checked os 3 .any (Rows.fnExactHoldersOfSpec.pre6 enc Tryz.prog Tryz.f3 Rows.fnExactHoldersOfRow.domain false) (Rows.fnExactHoldersOfSpec.post enc Tryz.prog Tryz.f3 false true false false) := by
  refine returnsInHanded_of_change_shaped (C := Tryz.checked) Seat.own started (by kernel_rfl) Tryz.func3
    (ChangeSpec.witness6 (enc := enc) (C := Tryz.checked) false ⟨#[], #[.agg #[.slice none 0 0, .slice none 0 0], .agg #[.int .i64 0, .bool false, .bool false], .int .i64 0], []⟩ 8 (by kernel_rfl) (by kernel_rfl) (by kernel_rfl) (by kernel_rfl)) ?_
  intro W base args ds gs before hval0 hW hcnd _ hsh _
  have hval : ∀ (j : Nat) t v, Tryz.f3.params[j]? = some t → args[j]? = some v → Value.okWide Tryz.prog W .any base t v := hval0
  have hW' := hW
  obtain ⟨p, q, hA0, hV, rfl, hfz, hnd⟩ := hW
  have hA : DataW.TrodAll enc Tryz.prog W 0 (fun _ => true) true Tryz.f3.params.toList args.toList ds p := hA0
  rw [Tryz.params3] at hA hval
  obtain ⟨v0, vs0, d0, ds0, p0, q0, hargs, rfl, rfl, h0, r0⟩ := trodAll_cons hA
  obtain ⟨v1, vs1, d1, ds1, p1, q1, rfl, rfl, rfl, h1, r1⟩ := trodAll_cons r0
  obtain ⟨v2, vs2, d2, ds2, p2, q2, rfl, rfl, rfl, h2, r2⟩ := trodAll_cons r1
  obtain ⟨rfl, rfl, rfl⟩ := trodAll_nil r2
  obtain rfl : args = #[v0, v1, v2] := by cases args; simp_all
  obtain ⟨rfl, rfl⟩ := trodVars_none hV
  obtain ⟨y0, s0, g0⟩ := arg_of_trod (O := fun _ => False) (fun _ h => h) (s := shFam) (by kernel_rfl) (hval 0 25 v0 rfl rfl) h0
  obtain ⟨a0_0, a0_1, rfl, f0⟩ := fam_of_sh s0
  obtain ⟨y1, s1, g1⟩ := arg_of_trod (O := fun _ => False) (fun _ h => h) (s := shCus) (by kernel_rfl) (hval 1 27 v1 rfl rfl) h1
  obtain ⟨a1_0, rfl, f1⟩ := cus_of_sh s1
  obtain ⟨y2, s2, g2⟩ := arg_of_trod (O := fun _ => False) (fun _ h => h) (s := (.int .i64)) (by kernel_rfl) (hval 2 3 v2 rfl rfl) h2
  obtain ⟨a2_0, rfl, f2⟩ := int_of_sh s2
  have law := (law_holdersOf a0_0 a0_1 a1_0 a2_0 f0).run W (fun _ => False) #[v0, v1, v2] (gi_of hsh) (fun b h => h.elim) rfl fun i x v hx hv => by
    match i with
    | 0 => simp at hx hv; subst hx; subst hv; exact g0
    | 1 => simp at hx hv; subst hx; subst hv; exact g1
    | 2 => simp at hx hv; subst hx; subst hv; exact g2
    | i + 3 => simp at hx
  refine law.mono fun e W' ⟨v, he, bel, res⟩ => ?_
  subst he
  obtain ⟨bs, _, hr⟩ := res
  have hv : v = .bool true := by have h := hr; simp [RR, RR1, RRc, RC] at h; exact h.1
  subst hv
  have hA' := hA0
  rw [Tryz.params3] at hA'
  refine ⟨_, rfl, _, _, _, [], _, [], hW', trodAll_mk1 (shut_bool Tryz.underlying4 _), DataW.TrodAll.respare (kids_books Seat.laidOut hread) (fun _ _ => books_sized hread) (fun t ht => inbook t ht) (trodAll_carry hA' fun p hp => bel.same (DataW.TrodAll.lt hA' p hp)) (fun p hp => decide_eq_true (DataW.TrodAll.lt hA' p hp)), rfl, bel.frame _, fun h => by cases h⟩

theorem unf : Tryz.prog.unfollowed 3 = Rows.fnExactHoldersOfRow.unfollowed := by kernel_rfl
theorem rcs : Tryz.prog.recurses 3 = Rows.fnExactHoldersOfRow.recurses := by kernel_rfl
theorem nmd : Tryz.prog.varsNamed 3 = Rows.fnExactHoldersOfRow.named := by kernel_rfl
theorem inp : Tryz.prog.inPlace 3 = Rows.fnExactHoldersOfRow.inPlace := by kernel_rfl
theorem fnd : Tryz.prog.funcNamed Rows.fnExactHoldersOfRow.func = some 3 := by kernel_rfl
theorem closed : joinedFacts Tryz.prog 3 Tryz.f3 Rows.fnExactHoldersOfSpec Rows.fnExactHoldersOfRow = true :=
  Seat.joined_of Seat.laidOut Seat.maps Seat.stops Seat.knobs Seat.keys Seat.heard Seat.enter Seat.lifts Seat.make rfl rfl rfl rfl rfl rfl
    inp.symm unf.symm rcs.symm nmd.symm (by kernel_rfl) (by kernel_rfl) (by kernel_rfl) (by kernel_rfl) (by kernel_rfl) (by kernel_rfl) (by kernel_rfl) (by kernel_rfl)
    (by kernel_rfl) (by kernel_rfl) (by kernel_rfl) (by kernel_rfl) (by kernel_rfl) (by kernel_rfl) (by kernel_rfl) (by kernel_rfl)
theorem inst : Tryz.f3.isInstance Tryz.prog Rows.fnExactHoldersOfRow.origin Rows.fnExactHoldersOfRow.targs := of_decide_eq_true (by kernel_rfl)
theorem wrap : Tryz.f3.isWrapper Tryz.prog Rows.fnExactHoldersOfRow.wrapper Rows.fnExactHoldersOfRow.mainSum := by
  unfold Func.isWrapper; rw [if_neg (by decide +kernel)]; exact ⟨rfl, rfl⟩
theorem over : Rows.fnExactHoldersOfRow.holds Tryz.pinned (OpenSpec.ofChange Rows.fnExactHoldersOfSpec) :=
  OpenClaim.holds_of_wide 3 Tryz.f3 rfl rfl rfl rfl rfl rfl rfl ⟨rfl, rfl, rfl, rfl, rfl⟩ rfl rfl rfl rfl rfl fnd Tryz.func3 closed inst wrap
    (fun os started H enc _ => lifted os started H enc)

/-- THE STATEMENT -/
theorem proved : Rows.FnExactHoldersOfSaid :=
  over
#print axioms proved
end Go.Proofs.YtbiagkccgijdlaaGreat.fnExactHoldersOf

