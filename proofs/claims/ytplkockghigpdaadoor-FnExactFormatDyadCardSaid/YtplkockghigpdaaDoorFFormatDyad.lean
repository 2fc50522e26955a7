/- For all arguments, laws.FnExactFormatDyad returns true: the program's FormatDyad answers as the model's does, and leaves its arguments as they are. No condition. -/
import Derived.Test.YtplkockghigpdaaDoorFWGA
import Derived.Test.YtplkockghigpdaaDoorFLgWS
import Derived.Test.YtplkockghigpdaaDoorFSeat
import Derived.Test.YtplkockghigpdaaDoorCards
import Derived.Test.YtplkockghigpdaaDoorTie
import Derived.SevenTiedAt
import Derived.WalkKit
import Derived.ProofKit
import Derived.OpenShut
import Derived.ShutString
import Derived.ChangeOld
import Derived.Below
import Derived.ReadAgain
import Derived.ChangeBook
import Derived.HandedShaped
namespace Go.Proofs.YtplkockghigpdaaDoor.fnExactFormatDyad
open Go.ChangeShapes Go.WideShapes Go.ChangeAt Go.RowKit
open Go.ChangeMaps (open_string shut_string)
open Go.Lg
set_option linter.unusedVariables false      -- a walk need not use every 'w<i>' (that an integer argument fits its kind)

theorem hread : ∀ r ∈ ([28] : List TypeId), Tryd.prog.readableRec r = true := by
  intro r hr
  simp at hr
  rcases hr with rfl <;> kernel_rfl
theorem inbook : ∀ t ∈ #[28].toList, InBooks Tryd.prog [28] t := by
  intro t ht
  have hm : t ∈ ([28] : List TypeId) := (by decide : ∀ t ∈ (#[28] : Array TypeId).toList, t ∈ ([28] : List TypeId)) t ht
  refine ⟨t, hm, ?_, book_self t⟩
  simp at hm
  rcases hm with rfl <;> exact of_decide_eq_true (by kernel_rfl)

/-! ### THE ROW's STEP: WRITTEN OUT: LEAVE IT -/
set_option maxRecDepth 100000 in
theorem lifted (os : Os) (started : os.Started) (H : Type) (enc : TypeId × Value → H) :
    ReturnsInHanded {} Tryd.checked os 5 .any (fun w args => (Rows.fnExactFormatDyadSpec.pre enc Tryd.prog Tryd.f5 [] false w args ∧ laidMetH Tryd.prog Seat.laid2 w) ∧ sizedMet enc Tryd.prog Tryd.f5 (OpenSpec.ofChange Rows.fnExactFormatDyadSpec) false w args) (Rows.fnExactFormatDyadSpec.post enc Tryd.prog Tryd.f5 false true false false) := by
  refine returnsInHanded_of_change_and (C := Tryd.checked) (X := fun w _ => laidMetH Tryd.prog Seat.laid2 w) (fun _ _ _ hh h => h.of_heap hh) Seat.own started (by kernel_rfl) Tryd.func5
    (ChangeSpec.witness_shaped (enc := enc) (C := Tryd.checked) (os := os) (X := fun w _ => laidMetH Tryd.prog Seat.laid2 w) false (World.doorLaid Tryd.prog 400 os) #[.agg #[.int .i64 0, .int .i64 0]] 8 rfl (Seat.door_shaped os _) (by kernel_rfl) (by kernel_rfl) (by kernel_rfl) (Seat.door_met os _)) ?_
  intro W base args ds gs before hval0 hW _ _ hL _
  have hval : ∀ (j : Nat) t v, Tryd.f5.params[j]? = some t → args[j]? = some v → Value.okWide Tryd.prog W .any base t v := hval0
  have hW' := hW
  obtain ⟨p, q, hA0, hV, rfl, hfz, hnd⟩ := hW
  have hA : DataW.TrodAll enc Tryd.prog W 0 (fun _ => true) true Tryd.f5.params.toList args.toList ds p := hA0
  rw [Tryd.params5] at hA hval
  obtain ⟨v0, vs0, d0, ds0, p0, q0, hargs, rfl, rfl, h0, r0⟩ := trodAll_cons hA
  obtain ⟨rfl, rfl, rfl⟩ := trodAll_nil r0
  obtain rfl : args = #[v0] := by cases args; simp_all
  obtain ⟨rfl, rfl⟩ := trodVars_none hV
  obtain ⟨y0, s0, g0⟩ := arg_of_trod (O := fun _ => False) (fun _ h => h) (s := shDy) (by kernel_rfl) (hval 0 28 v0 rfl rfl) h0
  obtain ⟨a0_0, rfl, f0⟩ := dy_of_sh s0
  have law := (law_formatDyad a0_0).run W (fun _ => False) #[v0] (gi_of hL) (fun b h => h.elim) rfl fun i x v hx hv => by
    match i with
    | 0 => simp at hx hv; subst hx; subst hv; exact g0
    | i + 1 => simp at hx
  refine law.mono fun e W' ⟨v, he, bel, res⟩ => ?_
  subst he
  obtain ⟨bs, _, hr⟩ := res
  have hv : v = .bool true := by have h := hr; simp [RR, RR1, RRc, RC] at h; exact h.1
  subst hv
  have hA' := hA0
  rw [Tryd.params5] at hA'
  refine ⟨_, rfl, _, _, _, [], _, [], hW', trodAll_mk1 (shut_bool Tryd.underlying4 _), DataW.TrodAll.respare (kids_books Seat.laidOut hread) (fun _ _ => books_sized hread) (fun t ht => inbook t ht) (trodAll_carry hA' fun p hp => bel.same (DataW.TrodAll.lt hA' p hp)) (fun p hp => decide_eq_true (DataW.TrodAll.lt hA' p hp)), rfl, bel.frame _, fun h => by cases h⟩

theorem unf : Tryd.prog.unfollowed 5 = Rows.fnExactFormatDyadRow.unfollowed := by kernel_rfl
theorem rcs : Tryd.prog.recurses 5 = Rows.fnExactFormatDyadRow.recurses := by kernel_rfl
theorem nmd : Tryd.prog.varsNamed 5 = Rows.fnExactFormatDyadRow.named := by kernel_rfl
theorem inp : Tryd.prog.inPlace 5 = Rows.fnExactFormatDyadRow.inPlace := by kernel_rfl
theorem fnd : Tryd.prog.funcNamed Rows.fnExactFormatDyadRow.func = some 5 := by kernel_rfl
theorem closed : joinedFacts Tryd.prog 5 Tryd.f5 Rows.fnExactFormatDyadSpec Rows.fnExactFormatDyadRow = true :=
  Seat.joined_of Seat.laidOut Seat.maps Seat.stops Seat.knobs Seat.keys Seat.heard Seat.enter Seat.lifts Seat.make rfl rfl rfl rfl rfl rfl
    inp.symm unf.symm rcs.symm nmd.symm (by kernel_rfl) (by kernel_rfl) (by kernel_rfl) (by kernel_rfl) (by kernel_rfl) (by kernel_rfl) (by kernel_rfl) (by kernel_rfl)
    (by kernel_rfl) (by kernel_rfl) (by kernel_rfl) (by kernel_rfl) (by kernel_rfl) (by kernel_rfl) (by kernel_rfl) (by kernel_rfl)
theorem inst : Tryd.f5.isInstance Tryd.prog Rows.fnExactFormatDyadRow.origin Rows.fnExactFormatDyadRow.targs := of_decide_eq_true (by kernel_rfl)
theorem wrap : Tryd.f5.isWrapper Tryd.prog Rows.fnExactFormatDyadRow.wrapper Rows.fnExactFormatDyadRow.mainSum := by
  unfold Func.isWrapper; rw [if_neg (by decide +kernel)]; exact ⟨rfl, rfl⟩
theorem over : Rows.fnExactFormatDyadRow.holds Tryd.pinned (OpenSpec.ofChange Rows.fnExactFormatDyadSpec) :=
  OpenClaim.holds_of_wide 5 Tryd.f5 rfl rfl rfl rfl rfl rfl rfl ⟨rfl, rfl, rfl, rfl, rfl⟩ rfl rfl rfl rfl rfl fnd Tryd.func5 closed inst wrap
    (fun os started H enc _ => lifted os started H enc)

/-- THE STATEMENT: THE TIED CARD -/
theorem proved : Rows.FnExactFormatDyadCardSaid :=
  Claim7.holds_tied_plain_at .later [] [.data, .data, .data] true (true, "445fa7773e3b16cd1e17094154121d96bf9809b8382a1f85b9bed37e8fc5cded") false
    over (fun _ h => by cases h) (by kernel_rfl) (fun _ h => by cases h) fnExactFormatDyad_row_tie rfl ⟨rfl, rfl⟩ (by kernel_rfl) rfl
    (fun f fn hf hfn => by
      obtain rfl : f = 5 := Option.some.inj ((show Tryd.prog.funcNamed Rows.fnExactFormatDyadRow.func = some 5 from fnd).symm.trans hf) |>.symm
      obtain rfl : fn = Tryd.f5 := (Option.some.inj (Tryd.func5.symm.trans hfn)).symm
      exact ⟨by kernel_rfl, fun j t ht => by
        rw [Tryd.params5] at ht
        have hm : t ∈ [28] := by simpa using Array.mem_of_getElem? ht
        have hall : ([28].all fun u => !Tryd.prog.wantsStandIn u) = true := by kernel_rfl
        exact (show Tryd.prog.wantsStandIn t = false by simpa using List.all_eq_true.1 hall t hm)⟩)
    (by kernel_rfl)
#print axioms proved
end Go.Proofs.YtplkockghigpdaaDoor.fnExactFormatDyad

