/- Contracts by values out of contracts by handles: what is made is handed out, rows of rows frozen below. -/
import Derived.Test.YtbiagkccgijdlaaGreatALgN
namespace Go.Lg
variable [GI]
set_option linter.unusedSectionVars false
set_option linter.unusedVariables false
set_option linter.unusedSimpArgs false
open Go.RowKit

theorem pctx_ctx0 {w : World} {O : Nat → Prop} {pl : Nat → PV} : (pctx O w).Le (ctx O [] pl w) :=
  ⟨Nat.le_refl _, fun _ _ _ => rfl, fun b _ k => (by
    rcases k with k | ⟨id, blk, h, _⟩
    · exact k
    · simp at h), fun _ _ _ k => k.elim, fun _ _ _ _ k => k.elim⟩

theorem FSpec_of_good {P : Program} {f : FuncId} {args : List LV} {r : LV} (hc : ∀ (vs : Array Value) (w : World), (callFunc f vs).run P w = .ok (.enter f vs) w)
    (h : ∀ (w : World) (O : Nat → Prop) (vs : Array Value) (pl : Nat → PV), Good O w.heap.size ⟨w, [], pl⟩ [] pl w → vs.size = args.length → (∀ (i : Nat) x v, args[i]? = some x → vs[i]? = some v → RT (ctx O [] pl w) x v) →
      Calls P f vs w fun e w' => ∃ v H pl' r0, e = .returned v ∧ Good O w.heap.size ⟨w, [], pl⟩ H pl' w' ∧ RT1 (ctx O H pl' w') r0 v ∧ exW H r0 r fun ids => ids.Nodup) : FSpec P f args r := by
  unfold FSpec
  refine ⟨hc, fun w O vs hI hO hsz hargs => ?_⟩
  refine (h w O vs (fun _ => default) ⟨Below.refl _ _, ⟨Nat.le_refl _, hI⟩, fun id blk hb => by simp at hb, fun i j bi bj b hi => by simp at hi, fun i bi hi => by simp at hi, hO, fun b _ => rfl, fun id blk b hb => by simp at hb⟩ hsz
    fun i x v hx hv => RT.mono pctx_ctx0 _ _ (hargs i x v hx hv)).mono ?_
  rintro e w' ⟨v, H, pl', r0, rfl, g, hr, hk⟩
  obtain ⟨ids, h1, h2, h3⟩ := ex_RR1 g hr hk
  exact ⟨v, rfl, g.below, blocksOf pl' ids, blocksOf_nodup g ids h2 h1, RR_of1 (h3 _ fun b hb => hb.elim .inl (blocksOf_owned h2))⟩

theorem FSpec_of_HSpec {P : Program} {f : FuncId} {args : List LV} {r0 r : LV} {H : List Blk} (h : HSpec P f args [] r0 H) (k : exW H r0 r fun ids => ids.Nodup) : FSpec P f args r := by
  unfold HSpec at h
  refine FSpec_of_good h.1 fun w O vs pl g hsz hargs => (h.2 O w.heap.size w vs pl g hsz hargs).mono ?_
  rintro e w' ⟨v, pl', rfl, g', hr, _⟩
  exact ⟨v, H, pl', r0, rfl, g', RT1_of hr (exW_box k), k⟩

theorem dm_off : ∀ (n : Nat) (p : List Nat), p.length ≤ n → (∀ x : LV, offP (dm x) p = offP x p) ∧ (∀ xs : List LV, offP (.st (dms xs)) p = offP (.st xs) p) := by
  intro n
  induction n with
  | zero =>
    intro p hp
    have : p = [] := List.eq_nil_of_length_eq_zero (by omega)
    subst this
    have h0 : ∀ y : LV, offP y [] = some 0 := fun y => by cases y <;> rfl
    exact ⟨fun x => by rw [h0, h0], fun xs => by rw [h0, h0]⟩
  | succ n ih =>
    intro p hp
    have st : ∀ xs : List LV, offP (.st (dms xs)) p = offP (.st xs) p := by
      intro xs
      cases p with
      | nil => rfl
      | cons f q =>
        have e1 : LV.sizes ((dms xs).take f) = LV.sizes (xs.take f) := by
          rw [dms_map, ← List.map_take, ← dms_map, dms_sizesum]
        have e2 : (dms xs)[f]? = (xs[f]?).map dm := by rw [dms_map, List.getElem?_map]
        simp only [offP, e1, e2]
        cases hf : xs[f]? with
        | none => rfl
        | some x =>
          simp only [Option.map_some]
          rw [(ih q (by simp at hp; omega)).1 x]
    refine ⟨fun x => ?_, st⟩
    cases x with
    | st fs => simp only [dm]; exact st fs
    | own e' k' ys => cases p <;> rfl
    | _ => rfl

/-- Rows of rows, frozen below. -/
theorem good_freeze {X : Nat → Prop} {B : Nat} {W0 : Orig} {pl : Nat → PV} {w : World} {e k : Nat} {xs : List LV} (g : Good X B W0 [.row true e k xs] pl w) :
    ∃ pl', Good X B W0 [.row false e k (dms xs)] pl' w ∧ (ctx X [.row true e k xs] pl w).Le (ctx X [.row false e k (dms xs)] pl' w) := by
  obtain ⟨es, r1, r2, r3, r4⟩ := g.ok 0 _ rfl
  have nd := g.nd 0 _ rfl trivial
  have nd : (feet (pl 0).v ++ (pl 0).fp).Nodup := nd
  have hsame : ∀ p, offP (.st (dms xs)) p = offP (.st xs) p := fun p => (dm_off p.length p (Nat.le_refl _)).2 xs
  have hlen : (dms xs).length = xs.length := dms_length xs
  obtain ⟨g', hle⟩ := g.one (H' := [.row false e k (dms xs)]) (pl' := upd pl 0 ⟨(pl 0).v, []⟩) (id := 0) (w' := w) (nb := .row false e k (dms xs))
    (by simp) rfl
    (fun i b hb hne lv => by
      cases i with
      | zero => exact absurd rfl hne
      | succ i => simp at hb)
    (fun i hne => upd_other _ hne)
    (.inr ⟨_, rfl, ⟨_, rfl, hlen, fun p o hq => by rw [← hsame p]; exact hq⟩, by rw [upd_same]⟩)
    (fun c hc => by rw [upd_same] at hc; exact .inr ⟨0, _, rfl, trivial, List.mem_append_left _ hc⟩)
    (fun i b c hb hne lv hc hn => by
      cases i with
      | zero => exact hne rfl
      | succ i => simp at hb)
    (by rw [upd_same]; exact feet_nodup _)
    (Nat.le_refl _) rfl rfl rfl (fun c _ => .inl rfl)
    (fun hle => by
      rw [upd_same]
      refine ⟨es, by rw [hlen]; exact r1, ?_, fun x hx => dms_sizes r3 x hx, r4⟩
      refine RRcs_dmO (O := owned X [.row true e k xs] pl) (fun b hb => ?_) xs es (pl 0).fp (fun b hb ho => ?_) r2
      · rcases hb with hb | ⟨id, blk, h1, h2, h3⟩
        · exact .inl hb
        · cases id with
          | zero =>
            simp at h1; subst h1
            rw [upd_same] at h3
            exact .inr ⟨0, _, rfl, trivial, List.mem_append_left _ h3⟩
          | succ i => simp at h1
      · rcases ho with ho | ⟨id, blk, h1, h2, h3⟩
        · exact g.apart 0 _ b rfl trivial (List.mem_append_right _ hb) ho
        · cases id with
          | zero =>
            simp at h1; subst h1
            rw [upd_same] at h3
            exact (List.nodup_append.1 nd).2.2 b h3 b hb rfl
          | succ i => simp at h1)
  exact ⟨_, g', hle⟩

theorem FSpec_of_tree {P : Program} {f : FuncId} {args : List LV} {r0 r : LV} {e k : Nat} {xs : List LV} (h : HSpec P f args [] r0 [.row true e k xs]) (hk : exW [.row false e k (dms xs)] r0 r fun ids => ids.Nodup) : FSpec P f args r := by
  unfold HSpec at h
  refine FSpec_of_good h.1 fun w O vs pl g hsz hargs => (h.2 O w.heap.size w vs pl g hsz hargs).mono ?_
  rintro e' w' ⟨v, pl', rfl, g', hr, _⟩
  obtain ⟨pl2, g2, hle⟩ := good_freeze g'
  exact ⟨v, _, pl2, r0, rfl, g2, RT1.mono hle _ _ (RT1_of hr (exW_box hk)), hk⟩
end Go.Lg

