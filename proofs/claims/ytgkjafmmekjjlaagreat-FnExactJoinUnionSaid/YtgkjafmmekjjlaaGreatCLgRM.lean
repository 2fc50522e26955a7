/- Contracts by values out of contracts by handles, for several results. -/
import Derived.Test.YtgkjafmmekjjlaaGreatCLgMF
namespace Go.Lg
variable [GI]
set_option linter.unusedSectionVars false
set_option linter.unusedVariables false
set_option linter.unusedSimpArgs false
open Go.RowKit
theorem FSpec_of_HSpecT {P : Program} {f : FuncId} {args : List LV} {rs0 rs : List LV} {H : List Blk} (h : HSpec P f args [] (.tup rs0) H) (k : exsW H rs0 rs fun ids => ids.Nodup) : FSpec P f args (.tup rs) := by
  unfold HSpec at h
  unfold FSpec
  refine ⟨h.1, fun w O vs hI hO hsz hargs => ?_⟩
  refine (h.2 O w.heap.size w vs (fun _ => default) ⟨Below.refl _ _, ⟨Nat.le_refl _, hI⟩, fun id blk hb => by simp at hb, fun i j bi bj b hi => by simp at hi, fun i bi hi => by simp at hi, hO, fun b _ => rfl, fun id blk b hb => by simp at hb⟩ hsz
    fun i x v hx hv => RT.mono pctx_ctx0 _ _ (hargs i x v hx hv)).mono ?_
  rintro e w' ⟨v, pl', rfl, g, hr, _⟩
  obtain ⟨us, rfl, hsz', hel⟩ := hr
  obtain ⟨ids, h1, h2, h3⟩ := ex_RRt g rs0 rs _ us.toList (by simpa using hsz') (fun i y u hy hu => by
    have := hel i y u hy (by rw [← Array.getElem?_toList]; exact hu)
    cases y <;> first | exact this | (simp only [RT1] at this)) k
  exact ⟨_, rfl, g.below, blocksOf pl' ids, blocksOf_nodup g ids h2 h1, us, rfl, h3 _ fun b hb => hb.elim .inl (blocksOf_owned h2)⟩
end Go.Lg
