/- Contracts by values out of contracts by handles: what is made is handed out, rows of rows frozen below. -/
import Derived.Test.YtdhmnojnkgmmnaaFLgN
namespace Go.Lg
variable [GI]
set_option linter.unusedSectionVars false
set_option linter.unusedVariables false
set_option linter.unusedSimpArgs false
open Go.RowKit

theorem pctx_ctx0 {w : World} {O : Nat → Prop} {pl : Nat → PV} : (pctx O w).Le (ctx O [] pl w) :=
  ⟨Nat.le_refl _, fun _ _ _ => rfl, fun b _ k => (by
    rcases k with k | ⟨id, blk, h, _⟩
    · exact k
    · simp at h), fun _ _ _ k => k.elim, fun _ _ _ _ k => k.elim⟩

theorem FSpec_of_good {P : Program} {f : FuncId} {args : List LV} {r : LV} (hc : ∀ (vs : Array Value) (w : World), (callFunc f vs).run P w = .ok (.enter f vs) w)
    (h : ∀ (w : World) (O : Nat → Prop) (vs : Array Value) (pl : Nat → PV), Good O w.heap.size ⟨w, [], pl⟩ [] pl w → vs.size = args.length → (∀ (i : Nat) x v, args[i]? = some x → vs[i]? = some v → RT (ctx O [] pl w) x v) →
      Calls P f vs w fun e w' => ∃ v H pl' r0, e = .returned v ∧ Good O w.heap.size ⟨w, [], pl⟩ H pl' w' ∧ RT1 (ctx O H pl' w') r0 v ∧ exW H r0 r fun ids => ids.Nodup) : FSpec P f args r := by
  unfold FSpec
  refine ⟨hc, fun w O vs hI hO hsz hargs => ?_⟩
  refine (h w O vs (fun _ => default) ⟨Below.refl _ _, ⟨Nat.le_refl _, hI⟩, fun id blk hb => by simp at hb, fun i j bi bj b hi => by simp at hi, fun i bi hi => by simp at hi, hO, fun b _ => rfl, fun id blk b hb => by simp at hb⟩ hsz
    fun i x v hx hv => RT.mono pctx_ctx0 _ _ (hargs i x v hx hv)).mono ?_
  rintro e w' ⟨v, H, pl', r0, rfl, g, hr, hk⟩
  obtain ⟨ids, h1, h2, h3⟩ := ex_RR1 g hr hk
  exact ⟨v, rfl, g.below, blocksOf pl' ids, blocksOf_nodup g ids h2 h1, RR_of1 (h3 _ fun b hb => hb.elim .inl (blocksOf_owned h2))⟩

theorem FSpec_of_HSpec {P : Program} {f : FuncId} {args : List LV} {r0 r : LV} {H : List Blk} (h : HSpec P f args [] r0 H) (k : exW H r0 r fun ids => ids.Nodup) : FSpec P f args r := by
  unfold HSpec at h
  refine FSpec_of_good h.1 fun w O vs pl g hsz hargs => (h.2 O w.heap.size w vs pl g hsz hargs).mono ?_
  rintro e w' ⟨v, pl', rfl, g', hr, _⟩
  exact ⟨v, H, pl', r0, rfl, g', RT1_of hr (exW_box k), k⟩

end Go.Lg

