/- Rows that were opened below are closed again; reading where one is open. -/
import Derived.Test.YtbiagkccgijdlaaGreatALgY
namespace Go.Lg
variable [GI]
set_option linter.unusedSectionVars false
set_option linter.unusedVariables false
set_option linter.unusedSimpArgs false
open Go.RowKit

/-! ### Opened rows are closed, plain rows become rows that may own -/

section
variable {X : Nat → Prop} {B : Nat} {W0 : Orig} {H : List Blk} {pl : Nat → PV} {w : World} {ts : List LV} {a : Act}

theorem sim_close (s : Sim X B W0 ⟨ts, H⟩ a w pl) {i j m : Nat} {e k e' k' : Nat} {g : LV → List LV} {ys : List LV} (hi : H[i]? = some (.opn e k g j m)) (hj : H[j]? = some (.row false e' k' ys)) (hm : m = ys.length) :
    ∃ pl', Sim X B W0 ⟨ts, (H.set j .dead).set i (.row true e k (g (.own e' k' ys)))⟩ a w pl' ∧ (ctx X H pl w).Le (ctx X ((H.set j .dead).set i (.row true e k (g (.own e' k' ys)))) pl' w) := by
  obtain ⟨pre, post, v, p, r1, r2, r3, r4, r5, r6, r7, r8⟩ := s.good.ok i _ hi
  obtain ⟨_, hsl, hv⟩ := r8
  have hv := hv _ ys hj rfl hm
  obtain ⟨es, q1, q2, q3, q4⟩ := s.good.ok j _ hj
  have hij : i ≠ j := fun e => by subst e; rw [hi] at hj; cases hj
  have hplace : RRc w (owned X H pl) B (.st (g .nil)) (pre ++ .slice none 0 0 :: post) (pl i).fp := by simp only [RRc]; exact r2
  obtain ⟨pre', d, post', b1, bx, b2, hes, hfp, m1, m2, m3⟩ := RRc_place p _ _ _ _ hplace r5
  rw [r6] at m1
  have hpl : pre.length = pre'.length := Option.some.inj m1
  unfold RRc at m2
  have hd : d = [.slice none 0 0] := by simpa only [RC] using m2.1
  have hbx : bx = [] := m2.2
  subst hd; subst hbx
  have hpp : pre = pre' ∧ post = post' := by
    have h1 : pre ++ (.slice none 0 0 :: post) = pre' ++ (.slice none 0 0 :: post') := by rw [hes]; simp
    obtain ⟨h2, h3⟩ := List.append_inj h1 hpl
    exact ⟨h2, by simpa using h3⟩
  obtain ⟨rfl, rfl⟩ := hpp
  have own : RRc w (owned X H pl) B (.own e' k' ys) [v] (feet (pl j).v) := by
    simp only [RRc]
    exact ⟨v, es, rfl, by rw [hv]; exact q1, q2, q3, q4, by rw [hv]; rfl⟩
  have k3 := m3 _ [v] _ own
  rw [r7] at k3
  simp only [RRc] at k3
  have k3' : RRcs w (owned X H pl) B (g (.own e' k' ys)) (pre ++ v :: post) (b1 ++ feet (pl j).v ++ b2) := by simpa using k3
  have hlen : (g (.own e' k' ys)).length = (g .nil).length := by
    have h1 := RRcs.len _ _ _ k3'
    have hst := r7 (.own e' k' ys)
    have hg : (.st (g .nil) : LV) = setP (.st (g .nil)) p .nil := by rw [r7]
    cases p with
    | nil => simp [getP] at r5
    | cons f q =>
      have h7 := r7 (.own e' k' ys)
      cases hz : (g .nil)[f]? with
      | none => simp only [setP, hz, LV.st.injEq] at h7; rw [← h7]
      | some z => simp only [setP, hz, LV.st.injEq] at h7; rw [← h7]; simp
  have nd := s.good.nd i _ hi trivial
  have nd' : (feet (pl i).v ++ (b1 ++ b2)).Nodup := by
    have : (Blk.opn e k g j m).feet (pl i) = feet (pl i).v ++ (b1 ++ b2) := by simp only [Blk.feet]; rw [hfp]; simp
    rwa [this] at nd
  have fi : ∀ c, c ∈ feet (pl i).v ++ (b1 ++ b2) → c ∈ (Blk.opn e k g j m).feet (pl i) := fun c hc => by
    simp only [Blk.feet]; rw [hfp]; simpa using hc
  have dis : ∀ c, c ∈ feet (pl i).v ++ (b1 ++ b2) → c ∈ feet (pl j).v → False := fun c h1 h2 => hij (s.good.inj i j _ _ c hi trivial hj trivial (fi c h1) h2)
  have sameG : same (.st (g .nil)) (.st (g (.own e' k' ys))) = true := by rw [← r7 (.own e' k' ys)]; exact setP_same p _ _ (.own e' k' ys) r5 rfl
  obtain ⟨g', hle⟩ := s.good.one (H' := (H.set j .dead).set i (.row true e k (g (.own e' k' ys)))) (pl' := upd pl i ⟨(pl i).v, b1 ++ feet (pl j).v ++ b2⟩) (id := i) (w' := w) (nb := .row true e k (g (.own e' k' ys)))
    (by simp) (by rw [List.getElem?_set_self (by simpa using lt_of_get hi)])
    (fun i' b hb hne lv => by
      rcases set_get hb with ⟨rfl, _⟩ | ⟨_, h⟩
      · exact absurd rfl hne
      · rcases set_get h with ⟨_, rfl, _⟩ | ⟨_, h⟩
        · exact lv.elim
        · exact h)
    (fun i' hne => upd_other _ hne)
    (.inr ⟨_, hi, ⟨_, rfl, hlen, fun p' o hq => same_off p' _ _ o sameG hq⟩, by rw [upd_same]⟩)
    (fun c hc => by
      rw [upd_same] at hc
      have hc : c ∈ feet (pl i).v ++ (b1 ++ feet (pl j).v ++ b2) := hc
      simp only [List.mem_append] at hc
      rcases hc with h | (h | h) | h
      · exact .inr ⟨i, _, hi, trivial, fi c (by simp [h])⟩
      · exact .inr ⟨i, _, hi, trivial, fi c (by simp [h])⟩
      · exact .inr ⟨j, _, hj, trivial, h⟩
      · exact .inr ⟨i, _, hi, trivial, fi c (by simp [h])⟩)
    (fun i' b c hb hne lv hc hn => by
      rw [upd_same] at hn
      have hn : c ∈ feet (pl i).v ++ (b1 ++ feet (pl j).v ++ b2) := hn
      rcases set_get hb with ⟨rfl, _⟩ | ⟨_, h⟩
      · exact hne rfl
      rcases set_get h with ⟨_, rfl, _⟩ | ⟨hnj, h⟩
      · exact lv
      simp only [List.mem_append] at hn
      rcases hn with h1 | (h1 | h1) | h1
      · exact hne (s.good.inj i' i b _ c h lv hi trivial hc (fi c (by simp [h1])))
      · exact hne (s.good.inj i' i b _ c h lv hi trivial hc (fi c (by simp [h1])))
      · exact hnj (s.good.inj i' j b _ c h lv hj trivial hc h1)
      · exact hne (s.good.inj i' i b _ c h lv hi trivial hc (fi c (by simp [h1]))))
    (by
      rw [upd_same]
      show (feet (pl i).v ++ (b1 ++ feet (pl j).v ++ b2)).Nodup
      obtain ⟨n1, n2, n3⟩ := List.nodup_append.1 nd'
      obtain ⟨n4, n5, n6⟩ := List.nodup_append.1 n2
      refine List.nodup_append.2 ⟨n1, List.nodup_append.2 ⟨List.nodup_append.2 ⟨n4, feet_nodup _, fun a ha b hb e => dis a (by simp [ha]) (e ▸ hb)⟩, n5, fun a ha b hb e => ?_⟩, fun a ha b hb e => ?_⟩
      · rcases List.mem_append.1 ha with ha | ha
        · exact n6 a ha b hb e
        · exact dis b (by simp [hb]) (e ▸ ha)
      · simp only [List.mem_append] at hb
        rcases hb with (hb | hb) | hb
        · exact n3 a ha b (by simp [hb]) e
        · exact dis a (by simp [ha]) (e ▸ hb)
        · exact n3 a ha b (by simp [hb]) e)
    (Nat.le_refl _) rfl rfl rfl (fun c _ => .inl rfl)
    (fun hle => by
      rw [upd_same]
      refine ⟨pre ++ v :: post, by rw [hlen]; exact r1, RRcs.mono hle.pure _ _ _ (fun c _ => rfl) k3', ?_, r4⟩
      intro y hy
      obtain ⟨n, hn⟩ := List.getElem_of_mem hy
      obtain ⟨hn1, hn2⟩ := hn
      obtain ⟨x, hx1, hx2⟩ := sames_get (g .nil) _ n y (by simpa only [same] using sameG) (by rw [← hn2]; exact List.getElem?_eq_getElem hn1)
      rw [same_size _ _ hx2]
      exact r3 x (List.mem_of_getElem? hx1))
  exact ⟨_, ⟨g', s.defers, s.size, fun t x hx => RT.mono hle _ _ (s.tmps t x hx), s.le.trans hle⟩, hle⟩

theorem sim_up (s : Sim X B W0 ⟨ts, H⟩ a w pl) {i : Nat} {e k : Nat} {xs : List LV} (hi : H[i]? = some (.row false e k xs)) : ∃ pl', Sim X B W0 ⟨ts, H.set i (.row true e k xs)⟩ a w pl' := by
  obtain ⟨es, r1, r2, r3, r4⟩ := s.good.ok i _ hi
  have fe : ∀ c, c ∈ (Blk.row true e k xs).feet ⟨(pl i).v, []⟩ ↔ c ∈ (Blk.row false e k xs).feet (pl i) := fun c => by simp [Blk.feet]
  obtain ⟨g', hle⟩ := s.good.one (H' := H.set i (.row true e k xs)) (pl' := upd pl i ⟨(pl i).v, []⟩) (id := i) (w' := w) (nb := .row true e k xs)
    (by simp) (by rw [List.getElem?_set_self (lt_of_get hi)])
    (fun i' b hb hne lv => by
      rcases set_get hb with ⟨rfl, _⟩ | ⟨_, h⟩
      · exact absurd rfl hne
      · exact h)
    (fun i' hne => upd_other _ hne)
    (.inr ⟨_, hi, ⟨_, rfl, rfl, fun p' o hq => hq⟩, by rw [upd_same]⟩)
    (fun c hc => by rw [upd_same] at hc; exact .inr ⟨i, _, hi, trivial, (fe c).1 hc⟩)
    (fun i' b c hb hne lv hc hn => by
      rw [upd_same] at hn
      rcases set_get hb with ⟨rfl, _⟩ | ⟨_, h⟩
      · exact hne rfl
      · exact hne (s.good.inj i' i b _ c h lv hi trivial hc ((fe c).1 hn)))
    (by rw [upd_same]; show (feet (pl i).v ++ []).Nodup; simpa using feet_nodup _)
    (Nat.le_refl _) rfl rfl rfl (fun c _ => .inl rfl)
    (fun hle => by
      rw [upd_same]
      exact ⟨es, r1, RRcs_of _ _ (RCs.mono hle.pure _ _ r2), r3, r4⟩)
  exact ⟨_, g', s.defers, s.size, fun t x hx => RT.mono hle _ _ (s.tmps t x hx), s.le.trans hle⟩

theorem dm_offs : ∀ (n : Nat) (p : List Nat), p.length ≤ n → (∀ x : LV, offP (dm x) p = offP x p) ∧ (∀ xs : List LV, offP (.st (dms xs)) p = offP (.st xs) p) := by
  intro n
  induction n with
  | zero =>
    intro p hp
    have : p = [] := List.eq_nil_of_length_eq_zero (by omega)
    subst this
    have h0 : ∀ y : LV, offP y [] = some 0 := fun y => by cases y <;> rfl
    exact ⟨fun x => by rw [h0, h0], fun xs => by rw [h0, h0]⟩
  | succ n ih =>
    intro p hp
    have st : ∀ xs : List LV, offP (.st (dms xs)) p = offP (.st xs) p := by
      intro xs
      cases p with
      | nil => rfl
      | cons f q =>
        have e1 : LV.sizes ((dms xs).take f) = LV.sizes (xs.take f) := by
          rw [dms_map, ← List.map_take, ← dms_map, dms_sizesum]
        have e2 : (dms xs)[f]? = (xs[f]?).map dm := by rw [dms_map, List.getElem?_map]
        simp only [offP, e1, e2]
        cases hf : xs[f]? with
        | none => rfl
        | some x =>
          simp only [Option.map_some]
          rw [(ih q (by simp at hp; omega)).1 x]
    refine ⟨fun x => ?_, st⟩
    cases x with
    | st fs => simp only [dm]; exact st fs
    | own e' k' ys => cases p <;> rfl
    | _ => rfl

theorem set_split {α : Type} {xs : List α} {j : Nat} {x y : α} (h : xs[j]? = some x) : xs = xs.take j ++ x :: xs.drop (j + 1) ∧ xs.set j y = xs.take j ++ y :: xs.drop (j + 1) := by
  have hl := lt_of_get h
  have e : xs[j] = x := by rw [List.getElem?_eq_getElem hl] at h; exact Option.some.inj h
  refine ⟨?_, List.set_eq_take_append_cons_drop .. |>.trans (by rw [if_pos hl])⟩
  rw [← e, List.getElem_cons_drop, List.take_append_drop]
/-- One element of a tree's row is frozen for good. -/
theorem sim_fz (s : Sim X B W0 ⟨ts, H⟩ a w pl) {i : Nat} {e k : Nat} {xs : List LV} (hi : H[i]? = some (.row true e k xs)) {j : Nat} {x : LV} (hj : xs[j]? = some x) : ∃ pl', Sim X B W0 ⟨ts, H.set i (.row true e k (xs.set j (dm x)))⟩ a w pl' := by
  obtain ⟨es, r1, r2, r3, r4⟩ := s.good.ok i _ hi
  obtain ⟨e1, e2⟩ := set_split (y := dm x) hj
  have r2 : RRcs w (owned X H pl) B xs es (pl i).fp := r2
  have nd : (feet (pl i).v ++ (pl i).fp).Nodup := s.good.nd i _ hi trivial
  rw [e1] at r2
  obtain ⟨c1, c2, b1, b2, hc, hb, q1, q2⟩ := RRcs.split _ _ _ _ r2
  simp only [RRcs] at q2
  obtain ⟨c3, c4, b3, b4, hc2, hb2, q3, q4⟩ := q2
  subst hc2 hb2
  have nd2 := nd
  rw [hb] at nd2
  have hlen : (xs.set j (dm x)).length = xs.length := List.length_set ..
  have hsame : ∀ p, offP (.st (xs.set j (dm x))) p = offP (.st xs) p := fun p => by
    cases p with
    | nil => rfl
    | cons f q =>
      have hs : LV.sizes ((xs.set j (dm x)).take f) = LV.sizes (xs.take f) := by
        rw [List.take_set]
        rcases Nat.lt_or_ge j (xs.take f).length with h | h
        · have hj' : (xs.take f)[j]? = some x := by
            rw [List.getElem?_take, if_pos (by rw [List.length_take] at h; omega), hj]
          obtain ⟨f1, f2⟩ := set_split (y := dm x) hj'
          rw [f2]
          conv => rhs; rw [f1]
          simp only [sizes_append, LV.sizes, dm_size]
        · rw [List.set_eq_of_length_le h]
      simp only [offP, hs]
      by_cases he : j = f
      · subst he
        rw [List.getElem?_set_self (lt_of_get hj), hj]
        simp only
        rw [(dm_offs q.length q (Nat.le_refl _)).1 x]
      · rw [List.getElem?_set_ne he]
  have hsub : ∀ b, b ∈ b1 ++ b4 → b ∈ (pl i).fp := fun b h => by
    rw [hb]
    rcases List.mem_append.1 h with h | h
    · exact List.mem_append_left _ h
    · exact List.mem_append_right _ (List.mem_append_right _ h)
  have hown : ∀ b, owned X (H.set i (.row true e k (xs.set j (dm x)))) (upd pl i ⟨(pl i).v, b1 ++ b4⟩) b → owned X H pl b := fun b hb' => by
    rcases hb' with h | ⟨id, blk, h1, h2, h3⟩
    · exact .inl h
    · rcases set_get h1 with ⟨rfl, rfl, _⟩ | ⟨hne, h⟩
      · rw [upd_same] at h3
        refine .inr ⟨id, _, hi, trivial, ?_⟩
        rcases List.mem_append.1 h3 with h3 | h3
        · exact List.mem_append_left _ h3
        · exact List.mem_append_right _ (hsub b h3)
      · rw [upd_other _ (fun e => hne e)] at h3
        exact .inr ⟨id, blk, h, h2, h3⟩
  have hnot : ∀ b ∈ b3, ¬ owned X (H.set i (.row true e k (xs.set j (dm x)))) (upd pl i ⟨(pl i).v, b1 ++ b4⟩) b := fun b hb3 ho => by
    have hbf : b ∈ (pl i).fp := by rw [hb]; exact List.mem_append_right _ (List.mem_append_left _ hb3)
    rcases ho with ho | ⟨id, blk, h1, h2, h3⟩
    · exact s.good.apart i _ b hi trivial (List.mem_append_right _ hbf) ho
    · rcases set_get h1 with ⟨rfl, rfl, _⟩ | ⟨hne, h⟩
      · rw [upd_same] at h3
        have nd3 := List.nodup_append.1 nd2
        rcases List.mem_append.1 h3 with h3 | h3
        · exact nd3.2.2 b h3 b (List.mem_append_right _ (List.mem_append_left _ hb3)) rfl
        · have nd4 := List.nodup_append.1 nd3.2.1
          rcases List.mem_append.1 h3 with h3 | h3
          · exact nd4.2.2 b h3 b (List.mem_append_left _ hb3) rfl
          · exact (List.nodup_append.1 nd4.2.1).2.2 b hb3 b h3 rfl
      · rw [upd_other _ (fun e => hne e)] at h3
        exact hne (s.good.inj id i blk _ b h h2 hi trivial h3 (List.mem_append_right _ hbf))
  obtain ⟨g', hle⟩ := s.good.one (H' := H.set i (.row true e k (xs.set j (dm x)))) (pl' := upd pl i ⟨(pl i).v, b1 ++ b4⟩) (id := i) (w' := w) (nb := .row true e k (xs.set j (dm x)))
    (by simp) (by rw [List.getElem?_set_self (lt_of_get hi)])
    (fun i' b hb hne lv => by
      rcases set_get hb with ⟨rfl, _⟩ | ⟨_, h⟩
      · exact absurd rfl hne
      · exact h)
    (fun i' hne => upd_other _ hne)
    (.inr ⟨_, hi, ⟨_, rfl, hlen, fun p' o hq => by rw [← hsame p']; exact hq⟩, by rw [upd_same]⟩)
    (fun c hc => by
      rw [upd_same] at hc
      refine .inr ⟨i, _, hi, trivial, ?_⟩
      rcases List.mem_append.1 hc with h | h
      · exact List.mem_append_left _ h
      · exact List.mem_append_right _ (hsub c h))
    (fun i' b c hb' hne lv hc hn => by
      rw [upd_same] at hn
      rcases set_get hb' with ⟨rfl, _⟩ | ⟨_, h⟩
      · exact hne rfl
      · refine hne (s.good.inj i' i b _ c h lv hi trivial hc ?_)
        rcases List.mem_append.1 hn with h | h
        · exact List.mem_append_left _ h
        · exact List.mem_append_right _ (hsub c h))
    (by
      rw [upd_same]
      show (feet (pl i).v ++ (b1 ++ b4)).Nodup
      refine List.Nodup.sublist (List.Sublist.append_left (List.Sublist.append_left ?_ _) _) nd2
      exact List.sublist_append_right _ _)
    (Nat.le_refl _) rfl rfl rfl (fun c _ => .inl rfl)
    (fun hle => by
      rw [upd_same]
      refine ⟨es, by rw [hlen]; exact r1, ?_, fun y hy => ?_, r4⟩
      · show RRcs w (owned X (H.set i (.row true e k (xs.set j (dm x)))) (upd pl i ⟨(pl i).v, b1 ++ b4⟩)) B (xs.set j (dm x)) es (b1 ++ b4)
        generalize owned X (H.set i (.row true e k (xs.set j (dm x)))) (upd pl i ⟨(pl i).v, b1 ++ b4⟩) = O' at hown hnot ⊢
        rw [e2, hc]
        have m : (pctx (owned X H pl) w).Le (pctx O' w) := ⟨Nat.le_refl _, fun _ _ _ => rfl, fun b _ h => hown b h, fun _ _ _ h => h.elim, fun _ _ _ _ h => h.elim⟩
        refine RRcs.append _ _ _ _ _ _ (RRcs.mono m _ _ _ (fun _ _ => rfl) q1) ?_
        simp only [RRcs]
        exact ⟨c3, c4, [], b4, rfl, rfl, RRc_of _ _ (RRc_dmO hown x c3 b3 hnot q3), RRcs.mono m _ _ _ (fun _ _ => rfl) q4⟩
      · rcases List.mem_or_eq_of_mem_set hy with hy | rfl
        · exact r3 y hy
        · rw [dm_size]; exact r3 x (List.mem_of_getElem? hj))
  exact ⟨_, g', s.defers, s.size, fun t x hx => RT.mono hle _ _ (s.tmps t x hx), s.le.trans hle⟩

end


def closeK (H : List Blk) (id : Nat) (K : List Blk → Prop) : Prop := match H[id]? with
  | some (.opn e k g j m) => (match H[j]? with
    | some (.row false e' k' zs) => m = zs.length ∧ setHK H j .dead fun H1 => setHK H1 id (.row true e k (g (.own e' k' zs))) fun H2 => K H2
    | _ => False)
  | _ => False

section
variable {P : Program} {X : Nat → Prop} {B : Nat} {W0 : Orig} {ts : List LV} {H : List Blk} {a : Act} {pl : Nat → PV} {w : World} {T : Tab}

theorem closeK_sound (s : Sim X B W0 ⟨ts, H⟩ a w pl) {id : Nat} {K : List Blk → Prop} (h : closeK H id K) : ∃ H2 pl', K H2 ∧ Sim X B W0 ⟨ts, H2⟩ a w pl' ∧ (ctx X H pl w).Le (ctx X H2 pl' w) := by
  unfold closeK at h
  split at h
  · rename_i e k g j m hi
    split at h
    · rename_i e' k' zs hj
      obtain ⟨hm, h⟩ := h
      rw [setHK_eq, setHK_eq] at h
      obtain ⟨pl1, s1, hle⟩ := sim_close s hi hj hm
      exact ⟨_, pl1, h, s1, hle⟩
    · exact h.elim
  · exact h.elim

def loadO (T : Tab) (H : List Blk) (t : TypeId) (p : LV) (K : LV → List Blk → Prop) : Prop :=
  match T t with
  | none => False
  | some i => match p with
    | .hp id n (f :: q) => match H[id]? with
      | some (.opn e k g j m) => (q = [] ∧ n = (g .nil).length ∧ (g (.tup []))[f]? = some (.tup []) ∧ fitT i (.hs 0 0) = true ∧ K (.hs j m) H) ∨ (closeK H id fun H2 => loadT T H2 t (.hp id n (f :: q)) K)
      | _ => False
    | _ => False

theorem RRcs_noundef {O : Nat → Prop} {base : Nat} : ∀ (xs : List LV) (cs : List Value) (bs : List Nat), RRcs w O base xs cs bs → ∀ x ∈ xs, x ≠ .tup []
  | [], _, _, _, x, hx => by simp at hx
  | y :: ys, cs, bs, h, x, hx => by
    simp only [RRcs] at h
    obtain ⟨c1, c2, b1, b2, _, _, h1, h2⟩ := h
    rcases List.mem_cons.1 hx with rfl | hx
    · intro e; subst e; simp [RRc] at h1
    · exact RRcs_noundef ys c2 b2 h2 x hx

theorem op_loadO (hT : TabOK P T) {o : Oper} {t : TypeId} {x : Operand} (ho : o.op = .load t x) (s : Sim X B W0 ⟨ts, H⟩ a w pl) {K : LV → List Blk → Prop}
    (h : loadO T H t (ev ts x) K) : OpResS P o a w X B W0 ts H pl K := by
  have hx := ev_sound s x
  have ex0 : ev (St.mk ts H).tmps x = ev ts x := rfl
  rw [ex0] at hx
  have h' := h
  unfold loadO at h
  cases hi : T t with
  | none => rw [hi] at h; exact h.elim
  | some i =>
    rw [hi] at h
    have hty := hT t i hi
    simp only at h
    split at h
    rotate_left
    · exact h.elim
    rename_i id n f q e
    rw [e] at hx
    simp only [RT, RT1, RC] at hx
    obtain ⟨u0, h1, h2⟩ := hx
    simp at h1
    subst h1
    split at h
    rotate_left
    · exact h.elim
    rename_i e1 k1 g j m h0
    rcases h with ⟨rfl, hn, hu, hfit, hk⟩ | h
    · obtain ⟨pre, post, v, p, r1, r2, r3, r4, r5, r6, r7, r8⟩ := s.good.ok id _ h0
      have hund := RRcs_noundef _ _ _ r2
      have hp : p = [f] := by
        cases p with
        | nil => simp [getP] at r5
        | cons f' q' =>
          have h7 := r7 (.tup [])
          simp only [getP] at r5
          cases hz : (g .nil)[f']? with
          | none => rw [hz] at r5; cases r5
          | some z =>
            rw [hz] at r5
            simp only [setP, hz, LV.st.injEq] at h7
            rw [← h7] at hu
            by_cases hf : f' = f
            · subst hf
              rw [List.getElem?_set_self (lt_of_get hz)] at hu
              cases q' with
              | nil => rfl
              | cons f2 q2 =>
                exfalso
                have hzu := hund z (List.mem_of_getElem? hz)
                simp only at r5
                cases z <;> simp only [getP] at r5 <;> try (cases r5; done)
                rename_i fs
                simp only [setP] at hu
                split at hu <;> cases hu
            · rw [List.getElem?_set_ne hf] at hu
              exact absurd rfl (hund _ (List.mem_of_getElem? hu))
      subst hp
      have hu0 := h2.2.2.2.1 _ (g .nil) _ h0 rfl hn r6
      have hne : pre ++ v :: post ≠ [] := by simp
      obtain ⟨hb1, hcells⟩ := CellsAt_row (w := w) r1 hne
      have hcell : CellsAt w ⟨bk (pl id).v, pre.length, none⟩ [v] := by
        have : CellsAt w ⟨bk (pl id).v, 0, none⟩ (pre ++ [v] ++ post) := by simpa using hcells
        simpa using this.mid
      obtain ⟨v', hv, _, h6⟩ := run_loadVar (ρ := { ctx X H pl w with hs := fun _ _ v' => v' = v }) (x := .hs 0 0) (es := [v]) hty (by simp only [RC]; exact ⟨v, rfl, rfl⟩) hfit hcell
      obtain rfl : v' = v := by simp only [RT1, RC] at h6; obtain ⟨v'', hv'', h6⟩ := h6; simp at hv''; rw [hv'', h6]
      refine OpResS.pure s (v := v') ?_ hk (by simp only [RT, RT1, RC]; exact ⟨v', rfl, r8⟩)
      simp [execOp, ho, hu0, Instr.loadAt, Instr.sureAddr, hv]
    · obtain ⟨H2, pl2, h3, s2, hle⟩ := closeK_sound s h
      obtain ⟨v, hr, x', H', pl', k1, k2, k3, k4⟩ := op_loadT hT ho s2 (by rw [e]; exact h3)
      exact ⟨v, hr, x', H', pl', k1, k2, k3, hle.trans k4⟩

def indexAddrO (T : Tab) (H : List Blk) (t : TypeId) (p ix : LV) (K : LV → Prop) : Prop :=
  match T t with
  | some ⟨.slice e, _, _⟩ => match T e with
    | some ei => match ix with
      | .int _ i => match p with
        | .hs id n => match H[id]? with
          | some (.opn _ k g _ _) => n = (g .nil).length ∧ k = ei.size ∧ ∃ j : Nat, i = (j : Int) ∧ j < (g .nil).length ∧ K (.hp id n [j])
          | _ => False
        | _ => False
      | _ => False
    | none => False
  | _ => False

theorem op_indexAddrO (hT : TabOK P T) {o : Oper} {t : TypeId} {x ix : Operand} (ho : o.op = .indexAddr t x ix) (s : Sim X B W0 ⟨ts, H⟩ a w pl) {K : LV → List Blk → Prop}
    (h : indexAddrO T H t (ev ts x) (ev ts ix) fun v => K v H) : OpResS P o a w X B W0 ts H pl K := by
  have hx := ev_sound s x
  have hix := ev_sound s ix
  unfold indexAddrO at h
  split at h
  · rename_i e sz by' hi
    obtain ⟨d, hd, hd2, _⟩ := (hT t _ hi).und
    obtain rfl := kind_slice hd2
    split at h
    · rename_i ei hei
      have hsz := run_sizeOf (hT e ei hei)
      split at h
      · rename_i ki i ei'
        rw [ei'] at hix
        have vix := RT_int hix
        have run : ∀ {b o' : Nat} {len cap : Nat} {j : Nat}, i = (j : Int) → j < len → a.eval x = .slice (some ⟨b, o', none⟩) len cap →
            (execOp a.eval o).run P w = .ok (.value (.pointer (some ⟨b, o' + j * ei.size, none⟩))) w := by
          intro b o' len cap j e0 hj e1
          subst e0
          have hc : (0 : Int) ≤ (j : Int) ∧ (j : Int) < (len : Int) := by omega
          simp [execOp, ho, e1, vix, Instr.indexAt, asIntOf, run_underlying hd, hj, hsz, add_none]
        split at h
        · rename_i id n e1
          rw [e1] at hx
          simp only [RT, RT1, RC] at hx
          obtain ⟨u, h1, hid, _, h3⟩ := hx
          simp at h1
          split at h
          · rename_i e' k g j0 m hc
            obtain ⟨hn, hk, j, k1, k2, k3⟩ := h
            obtain ⟨pre, post, v, p, r1, r2, r3, r4, _⟩ := s.good.ok id _ hc
            have hu := h3 _ (g .nil) hc rfl hn
            have hr : ∃ g' cap, (pl id).v = .slice (some ⟨g', 0, none⟩) (g .nil).length cap := by
              rcases r1.2 with ⟨_, h0⟩ | ⟨g', cap, cur, hg, _⟩
              · omega
              · exact ⟨g', cap, hg⟩
            obtain ⟨g', cap, hg⟩ := hr
            rw [hu, hg] at h1
            refine OpResS.pure s (run k1 k2 h1) k3 ?_
            simp only [RT, RT1, RC]
            refine ⟨_, rfl, hid, .inl ⟨_, rfl⟩, ?_, ?_, ?_⟩
            · intro c' o'' hc'; rw [hc] at hc'; cases hc'
            · intro b' xs' o'' hc' hr hn' ho''
              rw [hc] at hc'; cases hc'; cases hr
              have : offP (.st (g .nil)) [j] = some (j * k) := by
                simp only [offP, List.getElem?_eq_getElem k2]
                rw [sizes_take_uniform r3 j (Nat.le_of_lt k2)]
                cases (g .nil)[j] <;> simp
              rw [this] at ho''
              cases ho''
              rw [hg, ← hk]
              simp [bk]
            · intro s' hc' q; rw [hc] at hc'; cases hc'; exact q.elim
          · exact h.elim
        · exact h.elim
      · exact h.elim
    · exact h.elim
  · exact h.elim
end
section
theorem Sim.freezeL {X : Nat → Prop} {B : Nat} {W0 : Orig} {ts : List LV} {H : List Blk} {a : Act} {w : World} {pl : Nat → PV} (h : Sim X B W0 ⟨ts, H⟩ a w pl) {id : Nat} {c : LV} (hb : H[id]? = some (.box c)) (hp : isPure c = true) :
    Sim X B W0 ⟨ts, H.set id .dead⟩ a w pl ∧ (∀ b, owned X (H.set id .dead) pl b → owned X H pl b) ∧ (∀ v, hpOK H pl id 0 [] v ∨ (∃ n, hpOK H pl id n [] v) → RT (pctx (owned X (H.set id .dead) pl) w) (.ref c) v) ∧ (ctx X H pl w).Le (ctx X (H.set id .dead) pl w) := by
  have hlt : id < H.length := lt_of_get hb
  have get : ∀ (j : Nat) (blk : Blk), (H.set id .dead)[j]? = some blk → blk.live → j ≠ id ∧ H[j]? = some blk := fun j blk hj hl => by
    by_cases e : j = id
    · subst e; rw [List.getElem?_set_self hlt] at hj; cases hj; exact hl.elim
    · rw [List.getElem?_set_ne (Ne.symm e)] at hj; exact ⟨e, hj⟩
  have sub : ∀ b, owned X (H.set id .dead) pl b → owned X H pl b := fun b o => by
    rcases o with o | ⟨j, blk, h1, h2, h3⟩
    · exact .inl o
    · exact .inr ⟨j, blk, (get j blk h1 h2).2, h2, h3⟩
  have hle : (ctx X H pl w).Le (ctx X (H.set id .dead) pl w) := by
    refine ⟨Nat.le_refl _, fun _ _ _ => rfl, fun b _ o => sub b o, fun j n v h => ?_, fun j n p v h => ?_⟩
    · refine ⟨by simpa using h.1, h.2.1, fun b xs hj hr => ?_⟩
      by_cases e : j = id
      · subst e; rw [List.getElem?_set_self hlt] at hj; cases hj; exact hr.elim
      · rw [List.getElem?_set_ne (Ne.symm e)] at hj; exact h.2.2 b xs hj hr
    · refine ⟨by simpa using h.1, h.2.1, fun c o hj => ?_, fun b xs o hj hr => ?_, fun s hj q => ?_⟩
      all_goals by_cases e : j = id
      · subst e; rw [List.getElem?_set_self hlt] at hj; cases hj
      · rw [List.getElem?_set_ne (Ne.symm e)] at hj; exact h.2.2.1 c o hj
      · subst e; rw [List.getElem?_set_self hlt] at hj; cases hj; exact hr.elim
      · rw [List.getElem?_set_ne (Ne.symm e)] at hj; exact h.2.2.2.1 b xs o hj hr
      · subst e; rw [List.getElem?_set_self hlt] at hj; cases hj; exact q.elim
      · rw [List.getElem?_set_ne (Ne.symm e)] at hj; exact h.2.2.2.2 s hj q
  refine ⟨⟨⟨h.good.below, h.good.base, fun j blk hj => ?_, fun i j bi bj b hi li hj lj fi fj => ?_, fun i bi hi li => ?_, h.good.xlt, h.good.keepX, fun j blk b hj lj fj => ?_⟩, h.defers, h.size, fun t x hx => RT.mono hle _ _ (h.tmps t x hx), h.le.trans hle⟩, sub, fun v hv => ?_, hle⟩
  · by_cases hl : blk.live
    · obtain ⟨ne, hj'⟩ := get j blk hj hl
      exact BlkOK.mono hle (fun _ _ => rfl) (h.good.ok j blk hj')
    · cases blk <;> first | trivial | exact absurd trivial hl
  · exact h.good.inj i j bi bj b (get i bi hi li).2 li (get j bj hj lj).2 lj fi fj
  · exact h.good.nd i bi (get i bi hi li).2 li
  · exact h.good.apart j blk b (get j blk hj lj).2 lj fj
  · have hv' : v = .pointer (some ⟨bk (pl id).v, 0, none⟩) := by
      rcases hv with hv | ⟨n, hv⟩ <;> exact hv.2.2.1 c 0 hb rfl
    obtain ⟨b, es, ty, h1, h2, h3, h4⟩ := h.good.ok id _ hb
    have hbk : bk (pl id).v = b := by rw [h1]; rfl
    have hft : b ∈ (Blk.box c).feet (pl id) := by
      refine Blk.feet_head (mem_feet.2 ⟨by rw [h1]; rfl, hbk⟩)
    have hno : ¬ owned X (H.set id .dead) pl b := fun o => by
      rcases o with o | ⟨j, blk, q1, q2, q3⟩
      · exact h.good.apart id _ b hb trivial hft o
      · obtain ⟨ne, q1'⟩ := get j blk q1 q2
        exact ne (h.good.inj j id blk _ b q1' q2 hb trivial q3 hft)
    rw [hv', hbk]
    simp only [RT, RT1, RC]
    have hcell : w.heap[b]? = some (.cells es.toArray ty (0, 0)) := h3
    refine ⟨⟨b, 0, none⟩, es, rfl, (Array.getElem?_eq_some_iff.1 hcell).1, hno, ?_, ⟨rfl, fun j v hjv => ?_⟩⟩
    · have := RC_pure h4 hp
      have hpl : (ctx X H pl w).pure.Le (pctx (owned X (H.set id .dead) pl) w).pure := ⟨Nat.le_refl _, fun _ _ _ => rfl, fun b _ o => sub b o, fun _ _ _ h => (h : False).elim, fun _ _ _ _ h => (h : False).elim⟩
      exact RC.mono hpl _ _ this
    · show w.cell? _ = some v
      unfold World.cell?
      simp only
      rw [hcell]
      simp [hjv]
theorem Sim.freeze {X : Nat → Prop} {B : Nat} {W0 : Orig} {ts : List LV} {H : List Blk} {a : Act} {w : World} {pl : Nat → PV} (h : Sim X B W0 ⟨ts, H⟩ a w pl) {id : Nat} {c : LV} (hb : H[id]? = some (.box c)) (hp : isPure c = true) :
    Sim X B W0 ⟨ts, H.set id .dead⟩ a w pl ∧ (∀ b, owned X (H.set id .dead) pl b → owned X H pl b) ∧ ∀ v, hpOK H pl id 0 [] v ∨ (∃ n, hpOK H pl id n [] v) → RT (pctx (owned X (H.set id .dead) pl) w) (.ref c) v := by
  obtain ⟨h1, h2, h3, _⟩ := h.freezeL hb hp
  exact ⟨h1, h2, h3⟩
theorem pctx_own {w : World} {X : Nat → Prop} {H : List Blk} {pl : Nat → PV} : (pctx (owned X H pl) w).Le (ctx X H pl w) :=
  ⟨Nat.le_refl _, fun _ _ _ => rfl, fun b _ k => k, fun _ _ _ k => (k : False).elim, fun _ _ _ _ k => (k : False).elim⟩
end

section
variable {P : Program} {X : Nat → Prop} {B : Nat} {W0 : Orig} {ts : List LV} {H : List Blk} {a : Act} {pl : Nat → PV} {w : World} {T : Tab}
/-- A box that is frozen at once. -/
def boxF (H : List Blk) (x : LV) (K : LV → List Blk → Prop) : Prop := match okBox x with
  | true => (match isPure x with
    | true => deepK x fun c => appK H .dead fun H' => K (.ref c) H'
    | false => False)
  | false => False
theorem op_boxF {o : Oper} {t : TypeId} {x : Operand} (ho : o.op = .box t x) (s : Sim X B W0 ⟨ts, H⟩ a w pl) {K : LV → List Blk → Prop}
    (h : boxF H (ev ts x) K) : OpRes P o a w X B W0 ts H pl K := by
  unfold boxF at h
  split at h
  · rename_i k
    split at h
    · rename_i kp
      simp only [deepK_eq, appK_eq] at h
      have hc := RT_cells (ev_sound s x) k
      obtain ⟨pl', h1, h2, hl⟩ := sim_newBox s t hc
      have hget : (H ++ [Blk.box (ev ts x)])[H.length]? = some (.box (ev ts x)) := by simp
      have hset : (H ++ [Blk.box (ev ts x)]).set H.length .dead = H ++ [.dead] := by
        rw [List.set_append_right _ _ (Nat.le_refl _)]; simp
      obtain ⟨s2, _, hv, hl2⟩ := h1.freezeL hget kp
      rw [hset] at s2 hv hl2
      unfold OpRes
      have hr : (execOp a.eval o).run P w = .ok (.value (.pointer (some ⟨w.heap.size, 0, none⟩))) (w.alloc (.cells (a.eval x).cells t)) := by
        simp [execOp, ho, Instr.box, newVar, newRow, newObj, Sem.run]
      rw [hr]
      have hp : hpOK (H ++ [Blk.box (ev ts x)]) pl' H.length 0 [] (.pointer (some ⟨w.heap.size, 0, none⟩)) := by
        simp only [RT, RT1, RC] at h2
        obtain ⟨v, e, k⟩ := h2
        simp at e
        subst e
        exact k
      have hrt := hv _ (.inl hp)
      exact ⟨_, _, pl', h, s2, RT.mono pctx_own _ _ hrt, hl.trans hl2⟩
    · exact h.elim
  · exact h.elim
end

end Go.Lg

