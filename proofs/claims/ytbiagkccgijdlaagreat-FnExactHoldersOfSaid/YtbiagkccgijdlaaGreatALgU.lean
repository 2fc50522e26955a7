/- More operations: append, literals of slices and structs, function values, conversions of integers, ranges over strings. -/
import Derived.Test.YtbiagkccgijdlaaGreatALgR
import Derived.Maps.AppendAt
import Derived.Great.FillDense
import Derived.Great.BuildSlice
import Derived.Lib.OthersKept
namespace Go.Lg
variable [GI]
set_option linter.unusedSectionVars false
set_option linter.unusedVariables false
set_option linter.unusedSimpArgs false
open Go.RowKit

section
variable {P : Program} {X : Nat → Prop} {B : Nat} {W0 : Orig} {ts : List LV} {H : List Blk} {a : Act} {pl : Nat → PV} {w : World} {T : Tab} {Z : ZTab}

/-! ### append -/

theorem okCells_p {O : Nat → Prop} {w : World} : okCells (pctx O w) := ⟨fun _ _ _ h => h.elim, fun _ _ _ _ h => h.elim⟩
mutual
theorem RRc.one {O : Nat → Prop} : ∀ (x : LV) (cs : List Value) (bs : List Nat), RRc w O B x cs bs → ∀ v ∈ cs, v.oneCell' = true
  | .own e k xs, cs, bs, h => by
    simp only [RRc] at h
    obtain ⟨v, es, rfl, h1, _⟩ := h
    rcases h1.2 with ⟨rfl, _⟩ | ⟨g, cap, cur, rfl, _⟩ <;> simp [Value.oneCell']
  | .st fs, cs, bs, h => by simp only [RRc] at h; exact RRcs.one fs cs bs h
  | .undef, cs, bs, h => by simp only [RRc] at h; exact RC.one okCells_p _ _ h.1
  | .int k n, cs, bs, h => by simp only [RRc] at h; exact RC.one okCells_p _ _ h.1
  | .bool b, cs, bs, h => by simp only [RRc] at h; exact RC.one okCells_p _ _ h.1
  | .lit b, cs, bs, h => by simp only [RRc] at h; exact RC.one okCells_p _ _ h.1
  | .str s, cs, bs, h => by simp only [RRc] at h; exact RC.one okCells_p _ _ h.1
  | .nil, cs, bs, h => by simp only [RRc] at h; exact RC.one okCells_p _ _ h.1
  | .sl xs, cs, bs, h => by simp only [RRc] at h; exact RC.one okCells_p _ _ h.1
  | .tup _, _, _, h => by simp [RRc] at h
  | .ref c, cs, bs, h => by simp only [RRc] at h; exact RC.one okCells_p _ _ h.1
  | .clos f c, cs, bs, h => by simp only [RRc] at h; exact RC.one okCells_p _ _ h.1
  | .ifc f c, cs, bs, h => by simp only [RRc] at h; exact RC.one okCells_p _ _ h.1
  | .hs _ _, _, _, h => by simp [RRc] at h
  | .hp _ _ _, _, _, h => by simp [RRc] at h
theorem RRcs.one {O : Nat → Prop} : ∀ (xs : List LV) (cs : List Value) (bs : List Nat), RRcs w O B xs cs bs → ∀ v ∈ cs, v.oneCell' = true
  | [], cs, bs, h => by simp only [RRcs] at h; rw [h.1]; simp
  | x :: xs, cs, bs, h => by
    simp only [RRcs] at h
    obtain ⟨c1, c2, b1, b2, rfl, _, h1, h2⟩ := h
    intro v hv
    rcases List.mem_append.1 hv with hv | hv
    · exact RRc.one x c1 b1 h1 v hv
    · exact RRcs.one xs c2 b2 h2 v hv
end

theorem bk_own {v : Value} {g : Nat} (h : v.ownBlock = some g) : hasBk v = true ∧ bk v = g := by
  cases v <;> simp only [Value.ownBlock] at h <;> try cases h
  rename_i a l c
  cases a <;> simp only [Value.ownBlock] at h <;> cases h
  exact ⟨rfl, rfl⟩

/-- A row is grown: the one that it grew out of is no more, a new one lies behind; what others owned may be among what it owns. -/
theorem sim_append (s : Sim X B W0 ⟨ts, H⟩ a w pl) {H1 : List Blk} {v v' : Value} {w' : World} {t : Bool} {e : TypeId} {k : Nat} {zs : List LV} {es : List Value} {F : List Nat}
    (hlen : H1.length = H.length) (h1 : ∀ (i : Nat) (b : Blk), H1[i]? = some b → H[i]? = some b ∨ b = Blk.dead)
    (hother : ∀ (i : Nat) (b : Blk) (c : Nat), H1[i]? = some b → b.live → c ∈ b.feet (pl i) → v.ownBlock ≠ some c ∧ c ∉ F)
    (hv : ∀ g, v.ownBlock = some g → ∃ (id : Nat) (blk : Blk), H[id]? = some blk ∧ blk.live ∧ g ∈ blk.feet (pl id) ∧ H1[id]? = some .dead)
    (hF : ∀ c ∈ F, (∃ (id : Nat) (blk : Blk), H[id]? = some blk ∧ blk.live ∧ c ∈ blk.feet (pl id)) ∧ v.ownBlock ≠ some c) (hFn : F.Nodup)
    (hg : w.grownBy w' v.ownBlock) (hr : w'.ownsRow B e k v' zs.length es) (hv' : v'.ownBlock = v.ownBlock ∨ v'.ownBlock = some w.heap.size)
    (hz : match t with | false => RCs (ctx X H pl w).pure zs es | true => RRcs w (owned X H pl) B zs es F) (hk : ∀ x ∈ zs, x.size = k) (h0 : 0 < k) (hinc : w.drawn ≤ w'.drawn := by exact Nat.le_refl _) :
    ∃ pl', Sim X B W0 ⟨ts, H1 ++ [.row t e k zs]⟩ a w' pl' ∧ RT (ctx X (H1 ++ [.row t e k zs]) pl' w') (.hs H1.length zs.length) v' ∧ (ctx X H pl w).Le (ctx X (H1 ++ [.row t e k zs]) pl' w') := by
  have fv : ∀ c, c ∈ feet v' → v'.ownBlock = some c := fun c hc => by
    obtain ⟨k1, k2⟩ := mem_feet.1 hc
    rcases hr.2 with ⟨rfl, _⟩ | ⟨g', cap, cur, rfl, _⟩
    · simp [hasBk] at k1
    · simp [bk] at k2; subst k2; rfl
  have ffeet : ∀ c, c ∈ (Blk.row t e k zs).feet ⟨v', F⟩ → v'.ownBlock = some c ∨ c ∈ F := fun c hc => by
    cases t with
    | false => exact .inl (fv c hc)
    | true => exact (List.mem_append.1 hc).imp (fv c) id
  have fresh : ∀ c, v'.ownBlock = some c → v.ownBlock = some c ∨ c = w.heap.size := fun c hc => by
    rcases hv' with h | h
    · exact .inl (h ▸ hc)
    · rw [hc] at h; exact .inr (by simpa using h)
  have Flt : ∀ c ∈ F, c < w.heap.size := fun c hc => by
    obtain ⟨⟨id, blk, k1, k2, k3⟩, _⟩ := hF c hc
    exact ((s.good.ok id blk k1).feet_lt k2 k3).2
  have olt : ∀ {i : Nat} {b : Blk} {c : Nat}, H1[i]? = some b → b.live → c ∈ b.feet (pl i) → H[i]? = some b ∧ c < w.heap.size := fun {i b c} hi lv hc => by
    rcases h1 i b hi with h | rfl
    · exact ⟨h, ((s.good.ok i b h).feet_lt lv hc).2⟩
    · exact lv.elim
  have old : ∀ {i : Nat} {b : Blk}, H1[i]? = some b → b.live → H[i]? = some b := fun {i b} hi lv => by
    rcases h1 i b hi with h | rfl
    · exact h
    · exact lv.elim
  have nd : ((Blk.row t e k zs).feet ⟨v', F⟩).Nodup := by
    cases t with
    | false => exact feet_nodup _
    | true =>
      refine List.nodup_append.2 ⟨feet_nodup _, hFn, fun c hc d hd e => ?_⟩
      subst e
      rcases fresh c (fv c hc) with h | h
      · exact (hF c hd).2 h
      · have := Flt c hd; omega
  obtain ⟨g', hle⟩ := s.good.one (H' := H1 ++ [.row t e k zs]) (pl' := upd pl H1.length ⟨v', F⟩) (id := H1.length) (w' := w') (by show H.length ≤ _; simp; omega) (push_new _ _)
    (fun i b hi hne lv => by
      have hlt : i < H1.length := by have := lt_of_get hi; simp at this; omega
      rw [push_old hlt] at hi
      exact old hi lv)
    (fun i hne => upd_other _ hne) (.inl (by show H.length ≤ _; omega))
    (fun c hc => by
      rw [upd_same] at hc
      rcases ffeet c hc with h | h
      · rcases fresh c h with h | h
        · obtain ⟨id, blk, k1, k2, k3, _⟩ := hv c h; exact .inr ⟨id, blk, k1, k2, k3⟩
        · exact .inl (by omega)
      · exact .inr (hF c h).1)
    (fun i b c hi hne lv hc hn => by
      have hlt : i < H1.length := by have := lt_of_get hi; simp at this; omega
      rw [push_old hlt] at hi
      rw [upd_same] at hn
      obtain ⟨o1, o2⟩ := hother i b c hi lv hc
      rcases ffeet c hn with h | h
      · rcases fresh c h with h | h
        · exact o1 h
        · have := (olt hi lv hc).2; omega
      · exact o2 h)
    (by rw [upd_same]; exact nd) hg.size hg.os hg.tape hg.output
    (fun c hc => by
      by_cases h : some c = v.ownBlock
      · obtain ⟨id, blk, k1, k2, k3, k4⟩ := hv c h.symm
        refine .inr ⟨id, blk, k1, k2, k3, .inr fun b hb lv => ?_⟩
        have hlt : id < H1.length := lt_of_get k4
        rw [push_old hlt, k4] at hb
        cases hb
        exact lv
      · exact .inl (hg.block c hc h))
    (fun hle => by
      rw [upd_same]
      refine ⟨es, hr, ?_, hk, h0⟩
      cases t with
      | false => exact RCs.mono hle.pure _ _ hz
      | true => exact RRcs.mono hle.pure _ _ _ (fun c hc => hg.block c (Flt c hc) fun e => (hF c hc).2 e.symm) hz) hinc
  refine ⟨_, ⟨g', s.defers, s.size, fun t x hx => RT.mono hle _ _ (s.tmps t x hx), s.le.trans hle⟩, ?_, hle⟩
  have hslice : ∃ a l c, v' = .slice a l c := by
    rcases hr.2 with ⟨rfl, _⟩ | ⟨g', cap, cur, rfl, _⟩ <;> exact ⟨_, _, _, rfl⟩
  have : RC (ctx X (H1 ++ [.row t e k zs]) (upd pl H1.length ⟨v', F⟩) w') (.hs H1.length zs.length) [v'] := by
    simp only [RC]
    exact ⟨v', rfl, by simp, hslice, fun b' ys hy hyr hn => by rw [upd_same]⟩
  simpa only [RT, RT1] using this

def appRow (t1 t2 : Bool) (e : TypeId) (k : Nat) (xs : List LV) (K : Blk → Prop) : Prop :=
  match t1 with
  | true => K (.row true e k xs)
  | false => match t2 with
    | true => K (.row true e k xs)
    | false => K (.row false e k xs)
theorem appRow_eq (t1 t2 : Bool) (e : TypeId) (k : Nat) (xs : List LV) (K : Blk → Prop) : appRow t1 t2 e k xs K = K (.row (t1 || t2) e k xs) := by cases t1 <;> cases t2 <;> rfl

def appendTo (H : List Blk) (e : TypeId) (ei : TyI) (s : LV) (t : Bool) (ys : List LV) (K : LV → List Blk → Prop) : Prop :=
  match s with
  | .nil => ys.length ≤ maxLen ∧ ys.length * ei.bytes ≤ 140737488355328 ∧ appK H (.row t e ei.size ys) fun H' => K (.hs H.length ys.length) H'
  | .hs id n => match H[id]? with
    | some (.row t1 e1 k1 xs) => match Nat.beq e1 e && Nat.beq k1 ei.size with
      | true => n = xs.length ∧ (xs ++ ys).length ≤ maxLen ∧ (xs ++ ys).length * ei.bytes ≤ 140737488355328 ∧ setHK H id .dead fun H1 => appRow t1 t e ei.size (xs ++ ys) fun b => appK H1 b fun H' => K (.hs H.length (xs ++ ys).length) H'
      | false => False
    | _ => False
  | _ => False

def appendW (T : Tab) (Z : ZTab) (H : List Blk) (t : TypeId) (s x : LV) (K : LV → List Blk → Prop) : Prop :=
  match T t with
  | some ⟨.slice e, _, _⟩ => match T e with
    | some ei => match Z e with
      | some z => match Nat.beq z.size ei.size && Nat.blt 0 ei.size with
        | true => match x with
          | .sl ys => (∀ y ∈ ys, y.size = ei.size) ∧ appendTo H e ei s false ys K
          | .nil => appendTo H e ei s false [] K
          | .hs j m => match H[j]? with
            | some (.row t2 _ k2 ys) => match Nat.beq k2 ei.size with
              | true => m = ys.length ∧ (match t2 with
                | false => appendTo H e ei s false ys K
                | true => setHK H j .dead fun H0 => appendTo H0 e ei s true ys K)
              | false => False
            | _ => False
          | _ => False
        | false => False
      | none => False
    | none => False
  | _ => False

theorem appendTo_ex {H : List Blk} {e : TypeId} {ei : TyI} {u : LV} {t : Bool} {ys : List LV} {K : LV → List Blk → Prop} (h : appendTo H e ei u t ys K) :
    ∃ x H', K x H' ∧ ∀ K' : LV → List Blk → Prop, K' x H' → appendTo H e ei u t ys K' := by
  unfold appendTo at h ⊢
  cases u <;> simp only at h ⊢ <;> try exact h.elim
  · obtain ⟨h1, h2, h3⟩ := h
    rw [appK_eq] at h3
    exact ⟨_, _, h3, fun K' h => ⟨h1, h2, by rw [appK_eq]; exact h⟩⟩
  · rename_i id n
    cases hc : H[id]? with
    | none => rw [hc] at h; exact h.elim
    | some b =>
      rw [hc] at h
      cases b <;> simp only at h ⊢ <;> try exact h.elim
      split at h
      · rename_i hb
        obtain ⟨h1, h2, h3, h4⟩ := h
        rw [setHK_eq, appRow_eq, appK_eq] at h4
        exact ⟨_, _, h4, fun K' h => by try simp only [hb]
                                        exact ⟨h1, h2, h3, by rw [setHK_eq, appRow_eq, appK_eq]; exact h⟩⟩
      · exact h.elim

theorem appendW_ex {t : TypeId} {u x : LV} {K : LV → List Blk → Prop} (h : appendW T Z H t u x K) :
    ∃ y H', K y H' ∧ ∀ K' : LV → List Blk → Prop, K' y H' → appendW T Z H t u x K' := by
  unfold appendW at h ⊢
  split at h
  · rename_i e sz by' hi
    try simp only [hi]
    cases hei : T e with
    | none => rw [hei] at h; exact h.elim
    | some ei =>
      rw [hei] at h
      simp only at h ⊢
      cases hz : Z e with
      | none => rw [hz] at h; exact h.elim
      | some z =>
        rw [hz] at h
        simp only at h ⊢
        split at h
        · rename_i hb
          try simp only [hb]
          cases x <;> simp only at h ⊢ <;> try exact h.elim
          case nil => exact appendTo_ex h
          case sl =>
            obtain ⟨y, H', h1, h2⟩ := appendTo_ex h.2
            exact ⟨y, H', h1, fun K' k => ⟨h.1, h2 K' k⟩⟩
          case hs j m =>
            cases hc : H[j]? with
            | none => rw [hc] at h; exact h.elim
            | some b =>
              rw [hc] at h
              cases b <;> simp only at h ⊢ <;> try exact h.elim
              rename_i t2 _ _ _
              split at h
              · rename_i hb2
                cases t2 with
                | false =>
                  obtain ⟨y, H', h1, h2⟩ := appendTo_ex h.2
                  refine ⟨y, H', h1, fun K' k => ?_⟩
                  try simp only [hb2]
                  exact ⟨h.1, h2 K' k⟩
                | true =>
                  obtain ⟨h0, h⟩ := h
                  simp only [setHK_eq] at h
                  obtain ⟨y, H', h1, h2⟩ := appendTo_ex h
                  refine ⟨y, H', h1, fun K' k => ?_⟩
                  try simp only [hb2]
                  exact ⟨h0, by simp only [setHK_eq]; exact h2 K' k⟩
              · exact h.elim
        · exact h.elim
  · exact h.elim

theorem run_append_none (t ty e : TypeId) (i : TypeInfo) (c : Nat) (ht : P.underlying t = some (.slice e)) (hi : P.info? e = some i) {base k n : Nat} {v : Value} {xs : List Value} (hown : w.ownsRow base e k v n xs) :
    (Builtin.append_ #[t, t] ty #[v, .slice none 0 c]).run P w = .ok v w := by
  rcases hown.2 with ⟨rfl, rfl⟩ | ⟨g, cap, cur, rfl, _, _, hnc, _⟩
  · simp [Builtin.append_, run_underlying ht, sizeOf, typeInfo, hi, Builtin.lenOf, Builtin.firstCells, loadCells, loadCellsFrom]
  · simp [Builtin.append_, run_underlying ht, sizeOf, typeInfo, hi, Builtin.lenOf, Builtin.firstCells, hnc, storeCells, loadCells, loadCellsFrom]

theorem op_append (hT : TabOK P T) (hZ : ZOK P Z) {o : Oper} {t : TypeId} {u x : Operand} (ho : o.op = .call { callee := .builtin .append, args := #[u, x], argTypes := #[t, t] }) (s : Sim X B W0 ⟨ts, H⟩ a w pl) {K : LV → List Blk → Prop}
    (h : appendW T Z H t (ev ts u) (ev ts x) K) : OpRes P o a w X B W0 ts H pl K := by
  have hu := ev_sound s u
  have hx := ev_sound s x
  have eu : ev (St.mk ts H).tmps u = ev ts u := rfl
  have ex : ev (St.mk ts H).tmps x = ev ts x := rfl
  rw [eu] at hu
  rw [ex] at hx
  generalize hU : ev ts u = U at h hu
  generalize hXX : ev ts x = XX at h hx
  unfold appendW at h
  split at h
  rotate_left
  · exact h.elim
  rename_i e sz by' hi
  obtain ⟨d, hd, hd2, _⟩ := (hT _ _ hi).und
  obtain rfl := kind_slice hd2
  split at h
  rotate_left
  · exact h.elim
  rename_i ei hei
  obtain ⟨inf, hinf, hsz, hby⟩ := (hT e ei hei).info
  split at h
  rotate_left
  · exact h.elim
  rename_i z hz
  obtain ⟨inf', zv, i1, i2, i3⟩ := hZ e z hz
  rw [hinf] at i1
  cases i1
  split at h
  rotate_left
  · exact h.elim
  rename_i hb
  simp only [Bool.and_eq_true, Nat.beq_eq, Nat.blt_eq] at hb
  obtain ⟨hzz, hpos⟩ := hb
  have hzs : zv.cells.size = ei.size := by
    obtain ⟨c1, ec, hc⟩ := litIn_RC (ρ := ctx X H pl w) z _ _ i3
    rw [List.append_nil] at ec
    have := RC.len _ _ hc
    rw [← ec, Array.length_toList] at this
    omega
  -- the general step: 'H0' are the blocks without the one that is appended, where that one is given away
  have main : ∀ (t2 : Bool) (ys : List LV) (news : List Value) (H0 : List Blk) (F0 : List Nat), (match t2 with | false => RCs (ctx X H pl w).pure ys news | true => RRcs w (owned X H pl) B ys news F0) → (∀ y ∈ ys, y.size = ei.size) →
      ((∃ c, a.eval x = .slice none 0 c ∧ ys = []) ∨ ∃ ad c, a.eval x = .slice (some ad) ys.length c ∧ ∀ j q, news[j]? = some q → w.cell? (ad.add j) = some q) →
      H0.length = H.length → (∀ (i : Nat) (b : Blk), H0[i]? = some b → H[i]? = some b ∨ b = Blk.dead) → (t2 = false → F0 = []) → F0.Nodup →
      (∀ c ∈ F0, ∃ (id : Nat) (blk : Blk), H[id]? = some blk ∧ blk.live ∧ c ∈ blk.feet (pl id) ∧ H0[id]? = some .dead) →
      appendTo H0 e ei U t2 ys K → OpRes P o a w X B W0 ts H pl K := by
    intro t2 ys news H0 F0 hn hys hxv z1 z2 z3 z4 z5 hto
    have hn' : RRcs w (owned X H pl) B ys news F0 := by
      cases t2 with
      | false => rw [z3 rfl]; exact RRcs_of _ _ hn
      | true => exact hn
    have hnl : news.length = ys.length * ei.size := by rw [RRcs.len _ _ _ hn', sizes_uniform ys hys]
    have h1 : ∀ q ∈ news, q.oneCell' = true := RRcs.one _ _ _ hn'
    have z6 : ∀ (i : Nat) (b : Blk) (c : Nat), H0[i]? = some b → b.live → c ∈ b.feet (pl i) → c ∉ F0 := by
      intro i b c hi lv hc hF
      obtain ⟨id, blk, k1, k2, k3, k4⟩ := z5 c hF
      rcases z2 i b hi with h | rfl
      · obtain rfl := s.good.inj i id b blk c h lv k1 k2 hc k3
        rw [k4] at hi; cases hi; exact lv
      · exact lv
    have step : ∀ (t1 : Bool) (v : Value) (n : Nat) (xs : List LV) (es : List Value) (H1 : List Blk) (F1 : List Nat), a.eval u = v → w.ownsRow B e ei.size v n es → n = xs.length →
        (match t1 with | false => RCs (ctx X H pl w).pure xs es | true => RRcs w (owned X H pl) B xs es F1) → (t1 = false → F1 = []) → F1.Nodup → (∀ y ∈ xs, y.size = ei.size) →
        H1.length = H0.length → (∀ (i : Nat) (b : Blk), H1[i]? = some b → H0[i]? = some b ∨ b = Blk.dead) →
        (∀ (i : Nat) (b : Blk) (c : Nat), H1[i]? = some b → b.live → c ∈ b.feet (pl i) → v.ownBlock ≠ some c ∧ c ∉ F1) →
        (∀ g, v.ownBlock = some g → ∃ (id : Nat) (blk : Blk), H0[id]? = some blk ∧ blk.live ∧ g ∈ blk.feet (pl id) ∧ H1[id]? = some .dead) →
        (∀ c ∈ F1, (∃ (id : Nat) (blk : Blk), H0[id]? = some blk ∧ blk.live ∧ c ∈ blk.feet (pl id)) ∧ v.ownBlock ≠ some c) →
        (xs ++ ys).length ≤ maxLen → (xs ++ ys).length * ei.bytes ≤ 140737488355328 → K (.hs H1.length (xs ++ ys).length) (H1 ++ [.row (t1 || t2) e ei.size (xs ++ ys)]) → OpRes P o a w X B W0 ts H pl K := by
      intro t1 v n xs es H1 F1 ev1 hown hnx hxs q0 q01 hxk q1 q2 q3 q4 q5 hm hbytes hk
      subst hnx
      have up : ∀ {i : Nat} {b : Blk}, H0[i]? = some b → b.live → H[i]? = some b := fun {i b} hi lv => by
        rcases z2 i b hi with h | rfl
        · exact h
        · exact lv.elim
      have hxs' : RRcs w (owned X H pl) B xs es F1 := by
        cases t1 with
        | false => rw [q0 rfl]; exact RRcs_of _ _ hxs
        | true => exact hxs
      have hbase : B ≤ w.heap.size := s.good.base'.1
      have hlen : (xs ++ ys).length = xs.length + ys.length := List.length_append
      have hres : ∃ v' w', (Builtin.append_ #[t, t] o.type #[v, a.eval x]).run P w = .ok v' w' ∧ w'.ownsRow B e ei.size v' (xs.length + ys.length) (es ++ news) ∧ w.grownBy w' v.ownBlock ∧ (v'.ownBlock = v.ownBlock ∨ v'.ownBlock = some w.heap.size) := by
        rcases hxv with ⟨c, hxe, rfl⟩ | ⟨ad, c, hxe, hcell⟩
        · have : news = [] := by simpa using hnl
          subst this
          refine ⟨v, w, ?_, by simpa using hown, ⟨rfl, rfl, rfl, Nat.le_refl _, fun _ _ _ => rfl⟩, .inl rfl⟩
          rw [hxe]
          exact run_append_none t o.type e inf c hd hinf hown
        · obtain ⟨v', w', r1, r2, r3, _, r5⟩ := run_append_own_at (P := P) w B t o.type e inf zv ei.size ei.bytes hd hinf i2 hsz hby hzs hpos v xs.length es hown ad ys.length c news hnl hcell h1 (by omega) (by rw [← hlen]; exact hbytes) hbase
          exact ⟨v', w', by rw [hxe]; exact r1, r2, r3, r5⟩
      obtain ⟨v', w', r1, r2, r3, r5⟩ := hres
      rw [← hlen] at r2
      have dead0 : ∀ {i : Nat}, H0[i]? = some .dead → H1[i]? = some .dead := fun {i} h => by
        have hlt : i < H1.length := by rw [q1]; exact lt_of_get h
        rcases q2 i _ (List.getElem?_eq_getElem hlt) with h' | h'
        · rw [List.getElem?_eq_getElem hlt, ← h', h]
        · rw [List.getElem?_eq_getElem hlt, h']
      obtain ⟨pl', k1, k2, k3⟩ := sim_append (t := t1 || t2) (F := F1 ++ F0) (k := ei.size) s (q1.trans z1) (fun i b hi => by
          rcases q2 i b hi with h | h
          · exact z2 i b h
          · exact .inr h)
        (fun i b c hi lv hc => by
          obtain ⟨m1, m2⟩ := q3 i b c hi lv hc
          refine ⟨m1, fun hm => ?_⟩
          rcases List.mem_append.1 hm with hm | hm
          · exact m2 hm
          · rcases q2 i b hi with h | rfl
            · exact z6 i b c h lv hc hm
            · exact lv)
        (fun g hg => by obtain ⟨id, blk, m1, m2, m3, m4⟩ := q4 g hg; exact ⟨id, blk, up m1 m2, m2, m3, m4⟩)
        (fun c hc => by
          rcases List.mem_append.1 hc with hc | hc
          · obtain ⟨⟨id, blk, m1, m2, m3⟩, m4⟩ := q5 c hc; exact ⟨⟨id, blk, up m1 m2, m2, m3⟩, m4⟩
          · obtain ⟨id, blk, m1, m2, m3, m4⟩ := z5 c hc
            refine ⟨⟨id, blk, m1, m2, m3⟩, fun hg => ?_⟩
            obtain ⟨id', blk', n1, n2, n3, _⟩ := q4 c hg
            obtain rfl := s.good.inj id id' blk blk' c m1 m2 (up n1 n2) n2 m3 n3
            rw [m4] at n1; cases n1; exact n2)
        (List.nodup_append.2 ⟨q01, z4, fun c hc d hd e => by
          subst e
          obtain ⟨⟨id, blk, m1, m2, m3⟩, _⟩ := q5 c hc
          exact z6 id blk c m1 m2 m3 hd⟩) r3 r2 r5
        (by
          cases t1 <;> cases t2
          · exact RCs_join _ _ _ _ hxs hn
          all_goals exact RRcs.append _ _ _ _ _ _ hxs' hn')
        (fun y hy => by rcases List.mem_append.1 hy with hy | hy; exact hxk y hy; exact hys y hy) hpos (run_drawn _ _ _ _ r1)
      have hr : (execOp a.eval o).run P w = .ok (.value v') w' := by
        simp only [execOp, ho, resolve, invoke, builtin, Sem.run_bind, Sem.run_pure, Result.andThen_ok, List.map_toArray, List.map_cons, List.map_nil, ev1, r1]
      unfold OpRes
      rw [hr]
      exact ⟨_, _, pl', hk, k1, k2, k3⟩
    unfold appendTo at hto
    split at hto
    · obtain ⟨g1, g2, g3⟩ := hto
      rw [appK_eq] at g3
      have hv0 : a.eval u = .slice none 0 0 := by simpa [RT, RT1, RC] using hu
      exact step false _ 0 [] [] H0 [] hv0 (World.ownsRow_nil w B e ei.size) rfl (by simp [RCs]) (fun _ => rfl) List.nodup_nil (by simp) rfl (fun i b h => .inl h)
        (fun i b c _ _ _ => by simp [Value.ownBlock]) (fun g h => by simp [Value.ownBlock] at h) (by simp) g1 g2 (by simpa using g3)
    · rename_i id n
      split at hto
      · rename_i t1 e1 k1 xs hc
        split at hto
        · rename_i hbb
          simp only [Bool.and_eq_true, Nat.beq_eq] at hbb
          obtain ⟨rfl, rfl⟩ := hbb
          obtain ⟨g0, g1, g2, g3⟩ := hto
          rw [setHK_eq, appRow_eq, appK_eq] at g3
          have hc' : H[id]? = some (.row t1 e1 ei.size xs) := by
            rcases z2 id _ hc with h | h
            · exact h
            · cases h
          simp only [RT, RT1, RC] at hu
          obtain ⟨q, hq1, hq2, _, hq4⟩ := hu
          simp at hq1
          obtain ⟨es, r1, r2, r3, r4⟩ := s.good.ok id _ hc'
          have hq : q = pl id := hq4 _ _ hc' rfl g0
          have hpb : ∀ g, (pl id).v.ownBlock = some g → g ∈ feet (pl id).v := fun g h => mem_feet.2 (bk_own h)
          have hnd := s.good.nd id _ hc' trivial
          refine step t1 (pl id).v xs.length xs es (H0.set id .dead) (match t1 with | false => [] | true => (pl id).fp) (by rw [hq1, hq]) r1 rfl (by cases t1 <;> exact r2) (by intro h; subst h; rfl)
            (by cases t1 with | false => exact List.nodup_nil | true => exact (List.nodup_append.1 hnd).2.1) r3 (by simp) (fun i b h => ?_) (fun i b c h lv hc1 => ?_) (fun g h => ?_) (fun c hc1 => ?_) g1 g2 (by simpa [z1] using g3)
          · rcases set_get h with ⟨_, rfl, _⟩ | ⟨_, h⟩
            · exact .inr rfl
            · exact .inl h
          · rcases set_get h with ⟨_, rfl, _⟩ | ⟨hne, h⟩
            · exact lv.elim
            · have h' : H[i]? = some b := by
                rcases z2 i b h with h | rfl
                · exact h
                · exact lv.elim
              refine ⟨fun hq => ?_, fun hq => ?_⟩
              · exact hne (s.good.inj i id b _ c h' lv hc' trivial hc1 (Blk.feet_head (hpb _ hq)))
              · cases t1 with
                | false => simp at hq
                | true => exact hne (s.good.inj i id b _ c h' lv hc' trivial hc1 (List.mem_append_right _ hq))
          · exact ⟨id, _, hc, trivial, Blk.feet_head (hpb _ h), by rw [List.getElem?_set_self (lt_of_get hc)]⟩
          · cases t1 with
            | false => simp at hc1
            | true => exact ⟨⟨id, _, hc, trivial, List.mem_append_right _ hc1⟩, fun hq => (List.nodup_append.1 hnd).2.2 _ (hpb _ hq) _ hc1 rfl⟩
        · exact hto.elim
      · exact hto.elim
    · exact hto.elim
  split at h
  · rename_i ys
    simp only [RT, RT1, RC] at hx
    obtain ⟨a', cap, h1, h2, h3, h4⟩ := hx
    simp at h1
    rcases h4 with rfl | ⟨ad, es, k, rfl, h5, h6, h7, h8, h9⟩
    · cases a' with
      | none => exact main false [] [] H [] (by simp [RCs]) (by simp) (.inl ⟨cap, by simpa using h1, rfl⟩) rfl (fun _ _ h => .inl h) (fun _ => rfl) List.nodup_nil (by simp) h.2
      | some ad => exact main false [] [] H [] (by simp [RCs]) (by simp) (.inr ⟨ad, cap, by simpa using h1, by simp⟩) rfl (fun _ _ h => .inl h) (fun _ => rfl) List.nodup_nil (by simp) h.2
    · obtain ⟨b, off, sp⟩ := ad
      have hsp : sp = none := h8.1
      subst hsp
      exact main false ys es H [] h7 h.1 (.inr ⟨_, cap, h1, fun j q hq => by rw [add_none]; exact h8.2 j q hq⟩) rfl (fun _ _ h => .inl h) (fun _ => rfl) List.nodup_nil (by simp) h.2
  · have hv0 : a.eval x = .slice none 0 0 := by simpa [RT, RT1, RC] using hx
    exact main false [] [] H [] (by simp [RCs]) (by simp) (.inl ⟨0, hv0, rfl⟩) rfl (fun _ _ h => .inl h) (fun _ => rfl) List.nodup_nil (by simp) h
  · rename_i j m
    split at h
    · rename_i t2 e2 k2 ys hc
      split at h
      · rename_i hk2
        have hk2 := Nat.eq_of_beq_eq_true hk2
        subst hk2
        obtain ⟨hm, h⟩ := h
        simp only [RT, RT1, RC] at hx
        obtain ⟨q, hq1, hq2, _, hq4⟩ := hx
        simp at hq1
        obtain ⟨es, r1, r2, r3, r4⟩ := s.good.ok j _ hc
        have hq : q = pl j := hq4 _ _ hc rfl hm
        have hes : es.length = ys.length * ei.size := r1.1
        have hxv : (∃ c, a.eval x = .slice none 0 c ∧ ys = []) ∨ ∃ ad c, a.eval x = .slice (some ad) ys.length c ∧ ∀ j q, es[j]? = some q → w.cell? (ad.add j) = some q := by
          rcases r1.2 with ⟨hp, hn⟩ | ⟨g, cap, cur, hp, hg, hcur, hc1, hc2, _⟩
          · exact .inl ⟨0, by rw [hq1, hq, hp], List.eq_nil_of_length_eq_zero hn⟩
          · refine .inr ⟨⟨g, 0, none⟩, cap, by rw [hq1, hq, hp], fun i u hu => ?_⟩
            have hne : es ≠ [] := fun e => by subst e; simp at hu
            have := (CellsAt_row (w := w) r1 hne).2
            rw [hp] at this
            rw [add_none]
            exact this.2 i u hu
        cases t2 with
        | false => exact main false ys es H [] r2 r3 hxv rfl (fun _ _ h => .inl h) (fun _ => rfl) List.nodup_nil (by simp) h
        | true =>
          simp only [setHK_eq] at h
          refine main true ys es (H.set j .dead) (pl j).fp r2 r3 hxv (by simp) (fun i b h => ?_) (fun h => by cases h) (List.nodup_append.1 (s.good.nd j _ hc trivial)).2.1 (fun c hcF => ?_) h
          · rcases set_get h with ⟨_, rfl, _⟩ | ⟨_, h⟩
            · exact .inr rfl
            · exact .inl h
          · exact ⟨j, _, hc, trivial, List.mem_append_right _ hcF, by rw [List.getElem?_set_self (lt_of_get hc)]⟩
      · exact h.elim
    · exact h.elim
  · exact h.elim

end
end Go.Lg

