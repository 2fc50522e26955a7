/- Calls of functions that may write what they are lent: blocks are renumbered for the callee and back. -/
import Derived.Test.YtbiagkccgijdlaaGreatALgQ
namespace Go.Lg
variable [GI]
set_option linter.unusedVariables false
set_option linter.unusedSimpArgs false
set_option linter.unusedSectionVars false
open Go.RowKit

mutual
def renL (m : Nat → Nat) : LV → LV
  | .undef => .undef
  | .int k n => .int k n
  | .bool b => .bool b
  | .lit b => .lit b
  | .str s => .str s
  | .nil => .nil
  | .sl xs => .sl xs
  | .own e k xs => .own e k xs
  | .st fs => .st (renLs m fs)
  | .tup vs => .tup (renLs m vs)
  | .ref c => .ref c
  | .clos f c => .clos f (renLs m c)
  | .ifc f c => .ifc f (renLs m c)
  | .hs i n => .hs (m i) n
  | .hp i n p => .hp (m i) n p
def renLs (m : Nat → Nat) : List LV → List LV
  | [] => []
  | x :: xs => renL m x :: renLs m xs
end

def renB (m : Nat → Nat) : Blk → Blk
  | .box c => .box (renL m c)
  | .dead => .dead
  | .row t e k xs => .row t e k xs
  | .it s p => .it s p
  | .opn e k g j n => .opn e k g (m j) n
  | .bld t e us l => .bld t e us l
  | .mp mk L => .mp mk L

mutual
def sc (S : Nat → Bool) : LV → Bool
  | .hs id _ => S id
  | .hp id _ _ => S id
  | .st fs => scs S fs
  | .tup vs => scs S vs
  | .clos _ c => scs S c
  | .ifc _ c => scs S c
  | _ => true
def scs (S : Nat → Bool) : List LV → Bool
  | [] => true
  | x :: xs => sc S x && scs S xs
end

def scB (S : Nat → Bool) : Blk → Bool
  | .box c => sc S c
  | .opn _ _ _ j _ => S j
  | _ => true

theorem renB_isRow {m : Nat → Nat} {b : Blk} {xs : List LV} : (renB m b).isRow xs ↔ b.isRow xs := by cases b <;> simp [renB, Blk.isRow]
theorem renB_whole {m : Nat → Nat} {b : Blk} : (renB m b).whole ↔ b.whole := by cases b <;> simp [renB, Blk.whole]
theorem renB_feet {m : Nat → Nat} {b : Blk} {u : PV} : (renB m b).feet u = b.feet u := by cases b <;> simp [renB, Blk.feet] <;> (rename_i t _ _ _; cases t <;> rfl)

def below (n : Nat) (i : Nat) : Bool := Nat.blt i n
def memB : List Nat → Nat → Bool
  | [], _ => false
  | x :: xs, j => match Nat.beq x j with | true => true | false => memB xs j
theorem memB_iff : ∀ {xs : List Nat} {j : Nat}, memB xs j = true ↔ j ∈ xs
  | [], j => by simp [memB]
  | x :: xs, j => by
    simp only [memB]
    split
    · rename_i h; have := Nat.eq_of_beq_eq_true h; simp [this]
    · rename_i h; have := Nat.ne_of_beq_eq_false h; rw [memB_iff]; simp [Ne.symm this]
def idxN : List Nat → Nat → Nat
  | [], _ => 0
  | x :: xs, j => match Nat.beq x j with | true => 0 | false => idxN xs j + 1
theorem idxN_get : ∀ {xs : List Nat} {j : Nat}, j ∈ xs → xs[idxN xs j]? = some j
  | x :: xs, j, h => by
    simp only [idxN]
    split
    · rename_i e; have := Nat.eq_of_beq_eq_true e; simp [this]
    · rename_i e
      have := Nat.ne_of_beq_eq_false e
      rw [List.getElem?_cons_succ]
      exact idxN_get (by simpa [Ne.symm this] using h)

mutual
theorem renL_size (m : Nat → Nat) : ∀ x : LV, (renL m x).size = x.size
  | .undef => rfl | .int _ _ => rfl | .bool _ => rfl | .str _ => rfl | .nil => rfl | .sl _ => rfl | .own _ _ _ => rfl
  | .st fs => by simp only [renL, LV.size]; exact renLs_sizes m fs
  | .tup _ => rfl | .ref _ => rfl | .clos _ _ => rfl | .ifc _ _ => rfl | .lit _ => rfl | .hs _ _ => rfl | .hp _ _ _ => rfl
theorem renLs_sizes (m : Nat → Nat) : ∀ xs : List LV, LV.sizes (renLs m xs) = LV.sizes xs
  | [] => rfl
  | x :: xs => by simp only [renLs, LV.sizes, renL_size m x, renLs_sizes m xs]
end
theorem renLs_map (m : Nat → Nat) : ∀ xs : List LV, renLs m xs = xs.map (renL m)
  | [] => rfl
  | x :: xs => by simp only [renLs, List.map_cons, renLs_map m xs]
theorem renLs_len (m : Nat → Nat) (xs : List LV) : (renLs m xs).length = xs.length := by rw [renLs_map]; simp
theorem renLs_take (m : Nat → Nat) (xs : List LV) (i : Nat) : (renLs m xs).take i = renLs m (xs.take i) := by simp [renLs_map]

theorem offP_ren (m : Nat → Nat) : ∀ (p : List Nat) (c : LV), offP (renL m c) p = offP c p
  | [], c => by cases c <;> simp [renL, offP]
  | f :: p, c => by
    cases c <;> simp only [renL, offP]
    rename_i fs
    rw [renLs_map, List.getElem?_map]
    cases h : fs[f]? with
    | none => rfl
    | some x => simp only [Option.map_some, offP_ren m p x]; rw [← renLs_map, renLs_take, renLs_sizes]

/-- A reading with its handles under other numbers. -/
structure Rens (m : Nat → Nat) (S : Nat → Bool) (ρ ρ' : Ctx) : Prop where
  w : ρ'.w = ρ.w
  o : ∀ b, ρ'.O b → ρ.O b
  hs : ∀ i k v, S i = true → ρ.hs i k v → ρ'.hs (m i) k v
  hp : ∀ i k p v, S i = true → ρ.hp i k p v → ρ'.hp (m i) k p v

theorem Rens.pure {m : Nat → Nat} {S : Nat → Bool} {ρ ρ' : Ctx} (h : Rens m S ρ ρ') : ρ.pure.Le ρ'.pure :=
  ⟨by simp [Ctx.pure, h.w], fun b _ _ => by simp [Ctx.pure, h.w], fun b _ o => h.o b o, fun _ _ _ h => h, fun _ _ _ _ h => h⟩

mutual
theorem RC_ren {m : Nat → Nat} {S : Nat → Bool} {ρ ρ' : Ctx} (h : Rens m S ρ ρ') : ∀ (x : LV) (cs : List Value), sc S x = true → RC ρ x cs → RC ρ' (renL m x) cs
  | .undef, _, _, k => by simp only [RC, renL] at k ⊢; exact k
  | .int _ _, _, _, k => by simp only [RC, renL] at k ⊢; exact k
  | .bool _, _, _, k => by simp only [RC, renL] at k ⊢; exact k
  | .lit _, _, _, k => by simp only [RC, renL] at k ⊢; exact k
  | .str _, _, _, k => by simp only [RC, renL] at k ⊢; exact k
  | .nil, _, _, k => by simp only [RC, renL] at k ⊢; exact k
  | .sl xs, cs, _, k => by
    have : RC ρ.pure (.sl xs) cs := by simp only [RC] at k ⊢; exact k
    have := RC.mono h.pure _ _ this
    simp only [RC, renL] at this ⊢; exact this
  | .own _ _ _, _, _, k => by simp [RC] at k
  | .st fs, cs, s, k => by simp only [sc] at s; simp only [renL]; rw [RC_st] at k ⊢; exact RCs_ren h fs cs s k
  | .tup _, _, _, k => by simp [RC] at k
  | .ref c, cs, _, k => by
    have : RC ρ.pure (.ref c) cs := by simp only [RC] at k ⊢; exact k
    have := RC.mono h.pure _ _ this
    simp only [RC, renL] at this ⊢; exact this
  | .clos f c, cs, s, k => by
    simp only [sc] at s
    simp only [RC, renL] at k ⊢
    obtain ⟨vs, rfl, k⟩ := k
    exact ⟨vs, rfl, RCs_ren h c _ s k⟩
  | .ifc f c, cs, s, k => by
    simp only [sc] at s
    simp only [RC, renL] at k ⊢
    obtain ⟨vs, rfl, k⟩ := k
    exact ⟨vs, rfl, RCs_ren h c _ s k⟩
  | .hs i k', cs, s, k => by
    simp only [sc] at s
    simp only [RC, renL] at k ⊢
    obtain ⟨v, rfl, k⟩ := k
    exact ⟨v, rfl, h.hs _ _ _ s k⟩
  | .hp i k' p, cs, s, k => by
    simp only [sc] at s
    simp only [RC, renL] at k ⊢
    obtain ⟨v, rfl, k⟩ := k
    exact ⟨v, rfl, h.hp _ _ _ _ s k⟩
theorem RCs_ren {m : Nat → Nat} {S : Nat → Bool} {ρ ρ' : Ctx} (h : Rens m S ρ ρ') : ∀ (xs : List LV) (cs : List Value), scs S xs = true → RCs ρ xs cs → RCs ρ' (renLs m xs) cs
  | [], _, _, k => by simp only [RCs, renLs] at k ⊢; exact k
  | x :: xs, cs, s, k => by
    simp only [scs, Bool.and_eq_true] at s
    simp only [RCs, renLs] at k ⊢
    obtain ⟨c1, c2, rfl, k1, k2⟩ := k
    exact ⟨c1, c2, rfl, RC_ren h x c1 s.1 k1, RCs_ren h xs c2 s.2 k2⟩
end

theorem RT1_ren {m : Nat → Nat} {S : Nat → Bool} {ρ ρ' : Ctx} (h : Rens m S ρ ρ') {x : LV} {v : Value} (s : sc S x = true) (k : RT1 ρ x v) : RT1 ρ' (renL m x) v := by
  unfold RT1 at *
  cases x <;> simp only [renL] at * <;> first
    | exact k
    | (obtain ⟨cs, k1, k2⟩ := k; simp only [sc] at s; exact ⟨cs, k1, RCs_ren h _ _ s k2⟩)
    | (have := RC_ren h _ _ s k; simpa only [renL] using this)

theorem scs_get {S : Nat → Bool} : ∀ (xs : List LV) (i : Nat) (x : LV), scs S xs = true → xs[i]? = some x → sc S x = true
  | [], _, _, _, h => by simp at h
  | x :: xs, 0, y, s, h => by simp only [scs, Bool.and_eq_true] at s; simp at h; subst h; exact s.1
  | x :: xs, i + 1, y, s, h => by simp only [scs, Bool.and_eq_true] at s; exact scs_get xs i y s.2 (by simpa using h)

theorem RT_ren {m : Nat → Nat} {S : Nat → Bool} {ρ ρ' : Ctx} (h : Rens m S ρ ρ') {x : LV} {v : Value} (s : sc S x = true) (k : RT ρ x v) : RT ρ' (renL m x) v := by
  by_cases ht : ∃ vs, x = .tup vs
  · obtain ⟨vs, rfl⟩ := ht
    simp only [RT, renL] at *
    obtain ⟨us, h1, h2, h3⟩ := k
    simp only [sc] at s
    refine ⟨us, h1, by rw [renLs_len]; exact h2, fun i y u hy hu => ?_⟩
    rw [renLs_map, List.getElem?_map] at hy
    cases hv : vs[i]? with
    | none => rw [hv] at hy; cases hy
    | some z => rw [hv] at hy; cases hy; exact RT1_ren h (scs_get _ _ _ s hv) (h3 i z u hv hu)
  · have k' : RT1 ρ x v := by cases x <;> first | exact k | (exact absurd ⟨_, rfl⟩ ht)
    have := RT1_ren h s k'
    cases x <;> first | exact this | (exact absurd ⟨_, rfl⟩ ht)

/-- Handles under other numbers, where the blocks have moved. -/
theorem hsOK_move {H H' : List Blk} {pl pl' : Nat → PV} {m μ : Nat → Nat} {i j n : Nat} {v : Value} (h : hsOK H pl i n v)
    (hb : ∃ b, H'[j]? = some (renB m b) ∧ H[i]? = some (renB μ b)) (hp : pl' j = pl i) : hsOK H' pl' j n v := by
  obtain ⟨h1, h2, h3⟩ := h
  obtain ⟨b, hb', h0⟩ := hb
  refine ⟨lt_of_get hb', h2, fun b' xs hx hr hn => ?_⟩
  rw [hp]
  rw [hb'] at hx
  cases hx
  exact h3 _ xs h0 (renB_isRow.2 (renB_isRow.1 hr)) hn

theorem hpOK_move {H H' : List Blk} {pl pl' : Nat → PV} {m μ : Nat → Nat} {i j n : Nat} {p : List Nat} {v : Value} (h : hpOK H pl i n p v)
    (hb : ∃ b, H'[j]? = some (renB m b) ∧ H[i]? = some (renB μ b)) (hp : pl' j = pl i) : hpOK H' pl' j n p v := by
  obtain ⟨h1, h2, h3, h4, h5⟩ := h
  obtain ⟨b, hb', h0⟩ := hb
  refine ⟨lt_of_get hb', h2, fun c o hx ho => ?_, fun b' xs o hx hr hn ho => ?_, fun s hx q => ?_⟩
  · rw [hp]
    rw [hb'] at hx
    cases b <;> simp only [renB] at hx h0 <;> cases hx
    rw [offP_ren] at ho
    exact h3 _ o h0 (by rw [offP_ren]; exact ho)
  · rw [hp]
    rw [hb'] at hx
    cases hx
    exact h4 _ xs o h0 (renB_isRow.2 (renB_isRow.1 hr)) hn ho
  · rw [hp]
    rw [hb'] at hx
    cases hx
    exact h5 _ h0 (renB_whole.2 (renB_whole.1 q))

mutual
theorem renL_id : ∀ x : LV, renL (fun i => i) x = x
  | .undef => rfl | .int _ _ => rfl | .bool _ => rfl | .str _ => rfl | .nil => rfl | .sl _ => rfl | .own _ _ _ => rfl
  | .st fs => by simp only [renL, renLs_id fs]
  | .tup fs => by simp only [renL, renLs_id fs]
  | .ref _ => rfl
  | .clos _ fs => by simp only [renL, renLs_id fs]
  | .ifc _ fs => by simp only [renL, renLs_id fs]
  | .lit _ => rfl | .hs _ _ => rfl | .hp _ _ _ => rfl
theorem renLs_id : ∀ xs : List LV, renLs (fun i => i) xs = xs
  | [] => rfl
  | x :: xs => by simp only [renLs, renL_id x, renLs_id xs]
end
theorem renB_id (b : Blk) : renB (fun i => i) b = b := by cases b <;> simp [renB, renL_id]

theorem renB_live {m : Nat → Nat} {b : Blk} : (renB m b).live ↔ b.live := by cases b <;> simp [renB, Blk.live]

theorem BlkOK_ren {m : Nat → Nat} {S : Nat → Bool} {B : Nat} {ρ ρ' : Ctx} (h : Rens m S ρ ρ') {v : PV} {b : Blk} (s : scB S b = true) (k : BlkOK B ρ v b) : BlkOK B ρ' v (renB m b) := by
  cases b with
  | dead => trivial
  | box c =>
    obtain ⟨b, es, ty, e1, e2, e3, e4⟩ := k
    exact ⟨b, es, ty, e1, e2, by rw [h.w]; exact e3, RC_ren h _ _ s e4⟩
  | row t e kk xs =>
    obtain ⟨es, e1, e2, e3⟩ := k
    refine ⟨es, by rw [h.w]; exact e1, ?_, e3⟩
    cases t with
    | false => exact RCs.mono h.pure _ _ e2
    | true => exact RRcs.mono h.pure _ _ _ (fun b _ => by rw [h.w]) e2
  | it s p =>
    obtain ⟨b, e1, e2, e3, e4⟩ := k
    exact ⟨b, e1, e2, by rw [h.w]; exact e3, e4⟩
  | bld t e us l =>
    obtain ⟨b, v, e1, e2, e3, e4, e5⟩ := k
    exact ⟨b, v, e1, e2, by rw [h.w]; exact e3, by rw [h.w]; exact e4, e5⟩
  | mp mk L =>
    obtain ⟨b, es, clock, e1, e2, e3, e4⟩ := k
    exact ⟨b, es, clock, e1, e2, by rw [h.w]; exact e3, e4⟩
  | opn e kk g j n =>
    obtain ⟨pre, post, v', p, e1, e2, e3, e4, e5, e6, e7, e8⟩ := k
    exact ⟨pre, post, v', p, by rw [h.w]; exact e1, RRcs.mono h.pure _ _ _ (fun b _ => by rw [h.w]) e2, e3, e4, e5, e6, e7, h.hs _ _ _ s e8⟩

/-! ### The call -/

def outM (ids : List Nat) (n i : Nat) : Nat := match ids[i]? with | some j => j | none => n + (i - ids.length)
def putBs (m : Nat → Nat) : List Blk → List Nat → List Blk → List Blk
  | H, [], bs => H ++ bs.map (renB m)
  | H, id :: ids, b :: bs => putBs m (H.set id (renB m b)) ids bs
  | H, _ :: _, [] => H

def nodupN : List Nat → Bool
  | [] => true
  | x :: xs => !(xs.any (Nat.beq x)) && nodupN xs
theorem nodupN_spec : ∀ {xs : List Nat}, nodupN xs = true → xs.Nodup
  | [], _ => List.nodup_nil
  | x :: xs, h => by
    simp only [nodupN, Bool.and_eq_true, Bool.not_eq_true', List.any_eq_false, Nat.beq_eq] at h
    exact List.nodup_cons.2 ⟨fun hx => h.1 x hx rfl, nodupN_spec h.2⟩

def lentB (ids : List Nat) (args : List LV) (H : List Blk) (r : LV) (Hout : List Blk) : Bool :=
  nodupN ids && ids.all (fun i => Nat.blt i H.length) && Nat.ble ids.length Hout.length &&
  scs (memB ids) args && ids.all (fun i => scB (memB ids) (H.getD i .dead)) && sc (below Hout.length) r && Hout.all (scB (below Hout.length))

/-- What the callee is lent. -/
def lentH (ids : List Nat) (H : List Blk) : List Blk := ids.map fun i => renB (idxN ids) (H.getD i .dead)

structure LentOK (ids : List Nat) (args : List LV) (H : List Blk) (r : LV) (Hout : List Blk) : Prop where
  nodup : ids.Nodup
  lt : ∀ i ∈ ids, i < H.length
  out : ids.length ≤ Hout.length
  sa : scs (memB ids) args = true
  si : ∀ i ∈ ids, scB (memB ids) (H.getD i .dead) = true
  sr : sc (below Hout.length) r = true
  so : ∀ b ∈ Hout, scB (below Hout.length) b = true
theorem lentB_spec {ids : List Nat} {args : List LV} {H : List Blk} {r : LV} {Hout : List Blk} (h : lentB ids args H r Hout = true) : LentOK ids args H r Hout := by
  simp only [lentB, Bool.and_eq_true, List.all_eq_true, Nat.blt_eq, Nat.ble_eq] at h
  obtain ⟨⟨⟨⟨⟨⟨h1, h2⟩, h4⟩, h5⟩, h6⟩, h7⟩, h8⟩ := h
  exact ⟨nodupN_spec h1, h2, h4, h5, h6, h7, h8⟩

theorem putBs_len (m : Nat → Nat) : ∀ (ids : List Nat) (H bs : List Blk), ids.length ≤ bs.length → (putBs m H ids bs).length = H.length + (bs.length - ids.length)
  | [], H, bs, _ => by simp [putBs]
  | id :: ids, H, [], h => by simp at h
  | id :: ids, H, b :: bs, h => by
    simp only [putBs]
    rw [putBs_len m ids _ bs (by simpa using h)]
    simp

theorem putBs_other (m : Nat → Nat) : ∀ (ids : List Nat) (H bs : List Blk) (j : Nat), j < H.length → j ∉ ids → (putBs m H ids bs)[j]? = H[j]?
  | [], H, bs, j, hj, _ => by simp only [putBs]; rw [List.getElem?_append_left hj]
  | id :: ids, H, [], j, _, _ => rfl
  | id :: ids, H, b :: bs, j, hj, hn => by
    simp only [List.mem_cons, not_or] at hn
    simp only [putBs]
    rw [putBs_other m ids _ bs j (by simpa using hj) hn.2, List.getElem?_set_ne (fun e => hn.1 e.symm)]

theorem putBs_new (m : Nat → Nat) : ∀ (ids : List Nat) (H bs : List Blk) (i : Nat) (b : Blk), bs[i]? = some b → ids.Nodup → (∀ x ∈ ids, x < H.length) → ids.length ≤ bs.length →
    (putBs m H ids bs)[outM ids H.length i]? = some (renB m b)
  | [], H, bs, i, b, hb, _, _, _ => by
    simp only [putBs, outM, List.getElem?_nil, List.length_nil, Nat.sub_zero]
    rw [List.getElem?_append_right (by omega), Nat.add_sub_cancel_left, List.getElem?_map, hb]; rfl
  | id :: ids, H, [], i, b, hb, _, _, _ => by simp at hb
  | id :: ids, H, c :: bs, 0, b, hb, hn, hl, _ => by
    simp at hb; subst hb
    simp only [putBs, outM, List.getElem?_cons_zero]
    rw [putBs_other m ids _ bs id (by simpa using hl id (by simp)) (List.nodup_cons.1 hn).1, List.getElem?_set_self (hl id (by simp))]
  | id :: ids, H, c :: bs, i + 1, b, hb, hn, hl, hlen => by
    have := putBs_new m ids (H.set id (renB m c)) bs i b (by simpa using hb) (List.nodup_cons.1 hn).2 (fun x hx => by simpa using hl x (by simp [hx])) (by simpa using hlen)
    simp only [putBs]
    have e : outM (id :: ids) H.length (i + 1) = outM ids (H.set id (renB m c)).length i := by
      simp only [outM, List.getElem?_cons_succ, List.length_cons, List.length_set]
      cases ids[i]? with
      | some _ => rfl
      | none => simp only; omega
    rw [e]
    exact this

/-- Where the callee's blocks lie. -/
def outPl (ids : List Nat) (n : Nat) (pl pl' : Nat → PV) (j : Nat) : PV :=
  if j ∈ ids then pl' (ids.idxOf j) else if n ≤ j then pl' (ids.length + (j - n)) else pl j

theorem outPl_new {ids : List Nat} {n : Nat} {pl pl' : Nat → PV} (hn : ids.Nodup) (hl : ∀ x ∈ ids, x < n) (i : Nat) : outPl ids n pl pl' (outM ids n i) = pl' i := by
  unfold outPl outM
  cases h : ids[i]? with
  | some j =>
    have hm := List.mem_of_getElem? h
    simp only
    rw [if_pos hm]
    obtain ⟨hlt, rfl⟩ := List.getElem?_eq_some_iff.1 h
    rw [List.Nodup.idxOf_getElem hn]
  | none =>
    have hi : ids.length ≤ i := List.getElem?_eq_none_iff.1 h
    simp only
    rw [if_neg (fun hm => by have := hl _ hm; omega), if_pos (by omega)]
    congr 1; omega

theorem outPl_other {ids : List Nat} {n : Nat} {pl pl' : Nat → PV} {j : Nat} (h1 : j ∉ ids) (h2 : j < n) : outPl ids n pl pl' j = pl j := by
  unfold outPl
  rw [if_neg h1, if_neg (by omega)]

theorem outM_cases {ids : List Nat} {n len : Nat} (hlen : ids.length ≤ len) {j : Nat} (hj : j < n + (len - ids.length)) :
    (∃ i, i < len ∧ outM ids n i = j) ∨ (j < n ∧ j ∉ ids) := by
  by_cases hm : j ∈ ids
  · obtain ⟨i, hi, rfl⟩ := List.getElem_of_mem hm
    exact .inl ⟨i, by omega, by simp [outM, hi]⟩
  · by_cases hjn : j < n
    · exact .inr ⟨hjn, hm⟩
    · refine .inl ⟨ids.length + (j - n), by omega, ?_⟩
      have : ids[ids.length + (j - n)]? = none := List.getElem?_eq_none (by omega)
      simp only [outM, this]; omega

section
variable {X : Nat → Prop} {B : Nat} {W0 : Orig} {H : List Blk} {pl : Nat → PV} {w : World} {ids : List Nat} {args : List LV} {Hout : List Blk} {r : LV}

theorem owned_lt (g : Good X B W0 H pl w) {b : Nat} (h : owned X H pl b) : b < w.heap.size := by
  rcases h with h | ⟨id, blk, h1, h2, h3⟩
  · exact Nat.lt_of_lt_of_le (g.xlt b h) g.below.size
  · exact ((g.ok id blk h1).feet_lt h2 h3).2

/-- What the callee must leave alone. -/
def othersX (X : Nat → Prop) (H : List Blk) (pl : Nat → PV) (ids : List Nat) (b : Nat) : Prop :=
  X b ∨ ∃ (id : Nat) (blk : Blk), id ∉ ids ∧ H[id]? = some blk ∧ blk.live ∧ b ∈ blk.feet (pl id)

/-- Where what is lent lies. -/
def inPl (ids : List Nat) (pl : Nat → PV) (i : Nat) : PV := match ids[i]? with | some j => pl j | none => pl 0

theorem in_get {i : Nat} {b : Blk} (l : LentOK ids args H r Hout) (hb : (lentH ids H)[i]? = some b) : ∃ j c, ids[i]? = some j ∧ H[j]? = some c ∧ b = renB (idxN ids) c ∧ inPl ids pl i = pl j := by
  unfold lentH at hb
  rw [List.getElem?_map] at hb
  cases h : ids[i]? with
  | none => rw [h] at hb; cases hb
  | some j =>
    rw [h] at hb
    simp only [Option.map_some, Option.some.injEq] at hb
    have hj := l.lt j (List.mem_of_getElem? h)
    refine ⟨j, H[j], rfl, List.getElem?_eq_getElem hj, ?_, by simp [inPl, h]⟩
    rw [← hb]
    simp [List.getD_eq_getElem?_getD, hj]

theorem in_of {j : Nat} {c : Blk} (hj : j ∈ ids) (hc : H[j]? = some c) : (lentH ids H)[idxN ids j]? = some (renB (idxN ids) c) ∧ inPl ids pl (idxN ids j) = pl j := by
  have h := idxN_get hj
  constructor
  · unfold lentH
    rw [List.getElem?_map, h]
    simp [List.getD_eq_getElem?_getD, hc]
  · simp [inPl, h]

/-- What the callee is told to avoid: all others, or nothing (then what it hands back must be flat). -/
structure Avoids (X : Nat → Prop) (H : List Blk) (pl : Nat → PV) (ids : List Nat) (Y : Nat → Prop) : Prop where
  sub : ∀ b, Y b → othersX X H pl ids b

variable {Y : Nat → Prop}

theorem owned_in (l : LentOK ids args H r Hout) (hY : Avoids X H pl ids Y) (b : Nat) (h : owned Y (lentH ids H) (inPl ids pl) b) : owned X H pl b := by
  rcases h with h | ⟨i, blk, h1, h2, h3⟩
  · rcases hY.sub b h with h | ⟨id, blk, _, h⟩
    · exact .inl h
    · exact .inr ⟨id, blk, h⟩
  · obtain ⟨j, c, _, h5, rfl, e⟩ := in_get (pl := pl) l h1
    rw [e, renB_feet] at h3
    exact .inr ⟨j, c, h5, renB_live.1 h2, h3⟩

/-- What is lent is no other's. -/
theorem lent_apart (g : Good X B W0 H pl w) (l : LentOK ids args H r Hout) {i : Nat} {blk : Blk} {b : Nat} (h1 : (lentH ids H)[i]? = some blk) (h2 : blk.live) (h3 : b ∈ blk.feet (inPl ids pl i)) : ¬ othersX X H pl ids b := by
  obtain ⟨j, c, k1, h5, rfl, e⟩ := in_get (pl := pl) l h1
  rw [e, renB_feet] at h3
  rintro (h | ⟨id, blk', hn, m3, m4, m5⟩)
  · exact g.apart j c b h5 (renB_live.1 h2) h3 h
  · have := g.inj id j blk' c b m3 m4 h5 (renB_live.1 h2) m5 h3
    subst this
    exact hn (List.mem_of_getElem? k1)

theorem rens_in (l : LentOK ids args H r Hout) (hY : Avoids X H pl ids Y) : Rens (idxN ids) (memB ids) (ctx X H pl w) (ctx Y (lentH ids H) (inPl ids pl) w) := by
  refine ⟨rfl, fun b h => owned_in l hY b h, fun i k v hi h => ?_, fun i k p v hi h => ?_⟩
  · have hi := memB_iff.1 hi
    have hc := List.getElem?_eq_getElem h.1
    obtain ⟨h5, e⟩ := in_of (pl := pl) hi hc
    exact hsOK_move h ⟨_, h5, by rw [renB_id]; exact hc⟩ e
  · have hi := memB_iff.1 hi
    have hc := List.getElem?_eq_getElem h.1
    obtain ⟨h5, e⟩ := in_of (pl := pl) hi hc
    exact hpOK_move h ⟨_, h5, by rw [renB_id]; exact hc⟩ e

theorem good_in (g : Good X B W0 H pl w) (l : LentOK ids args H r Hout) (hY : Avoids X H pl ids Y) : Good Y B ⟨w, lentH ids H, inPl ids pl⟩ (lentH ids H) (inPl ids pl) w := by
  refine ⟨Below.refl _ _, g.base', fun i b hb => ?_, fun i j bi bj b hi li hj lj ai aj => ?_, fun i b hi li => ?_, fun b h => ?_, fun _ _ => rfl, fun i blk b hb lv hv h => lent_apart g l hb lv hv (hY.sub _ h)⟩
  · obtain ⟨j, c, h1, h2, rfl, e⟩ := in_get (pl := pl) l hb
    rw [e]
    have := l.si j (List.mem_of_getElem? h1)
    rw [List.getD_eq_getElem?_getD, h2] at this
    exact BlkOK_ren (rens_in l hY) this (g.ok j c h2)
  · obtain ⟨i', c, h1, h2, rfl, e⟩ := in_get (pl := pl) l hi
    obtain ⟨j', c', h1', h2', rfl, e'⟩ := in_get (pl := pl) l hj
    rw [e, renB_feet] at ai
    rw [e', renB_feet] at aj
    have := g.inj i' j' c c' b h2 (renB_live.1 li) h2' (renB_live.1 lj) ai aj
    subst this
    exact (List.getElem?_inj (List.getElem?_eq_some_iff.1 h1).1 l.nodup).1 (h1.trans h1'.symm)
  · obtain ⟨i', c, h1, h2, rfl, e⟩ := in_get (pl := pl) l hi
    rw [e, renB_feet]
    exact g.nd i' c h2 (renB_live.1 li)
  · exact owned_lt g (owned_in l hY b (.inl h))

variable {pl' : Nat → PV} {w' : World}

/-- The blocks behind the call. -/
def outH (ids : List Nat) (H Hout : List Blk) : List Blk := putBs (outM ids H.length) H ids Hout

theorem out_get (l : LentOK ids args H r Hout) {i : Nat} {b : Blk} (hb : Hout[i]? = some b) : (outH ids H Hout)[outM ids H.length i]? = some (renB (outM ids H.length) b) ∧ outPl ids H.length pl pl' (outM ids H.length i) = pl' i :=
  ⟨putBs_new _ ids H Hout i b hb l.nodup l.lt l.out, outPl_new l.nodup l.lt i⟩
theorem out_other {j : Nat} (hj : j < H.length) (hn : j ∉ ids) : (outH ids H Hout)[j]? = H[j]? ∧ outPl ids H.length pl pl' j = pl j :=
  ⟨putBs_other _ ids H Hout j hj hn, outPl_other hn hj⟩
theorem out_cases (l : LentOK ids args H r Hout) {j : Nat} {b : Blk} (h : (outH ids H Hout)[j]? = some b) :
    (∃ i c, Hout[i]? = some c ∧ j = outM ids H.length i ∧ b = renB (outM ids H.length) c) ∨ (j < H.length ∧ j ∉ ids ∧ H[j]? = some b) := by
  have hlt := lt_of_get h
  unfold outH at hlt
  rw [putBs_len _ ids H Hout l.out] at hlt
  rcases outM_cases l.out hlt with ⟨i, hi, rfl⟩ | ⟨h1, h2⟩
  · obtain ⟨k, _⟩ := out_get (pl := fun _ => ⟨.nilIface, []⟩) (pl' := fun _ => ⟨.nilIface, []⟩) l (List.getElem?_eq_getElem hi)
    rw [h] at k
    cases k
    exact .inl ⟨i, _, List.getElem?_eq_getElem hi, rfl, rfl⟩
  · rw [(out_other (pl := fun _ => ⟨.nilIface, []⟩) (pl' := fun _ => ⟨.nilIface, []⟩) h1 h2).1] at h
    exact .inr ⟨h1, h2, h⟩

theorem owned_out (l : LentOK ids args H r Hout) (b : Nat) (h : owned X (outH ids H Hout) (outPl ids H.length pl pl') b) :
    othersX X H pl ids b ∨ ∃ (i : Nat) (blk : Blk), Hout[i]? = some blk ∧ blk.live ∧ b ∈ blk.feet (pl' i) := by
  rcases h with h | ⟨id, blk, h1, h2, h3⟩
  · exact .inl (.inl h)
  · rcases out_cases l h1 with ⟨i, c, h5, rfl, rfl⟩ | ⟨h5, h6, h7⟩
    · rw [(out_get (pl := pl) (pl' := pl') l h5).2, renB_feet] at h3
      exact .inr ⟨i, c, h5, renB_live.1 h2, h3⟩
    · rw [(out_other (Hout := Hout) (pl := pl) (pl' := pl') h5 h6).2] at h3
      exact .inl (.inr ⟨id, blk, h6, h7, h2, h3⟩)

theorem others_owned {b : Nat} (h : othersX X H pl ids b) : owned X H pl b := by
  rcases h with h | ⟨id, blk, _, h⟩
  · exact .inl h
  · exact .inr ⟨id, blk, h⟩

/-- What the callee owns at the end is no other's. -/
theorem callee_apart (g : Good X B W0 H pl w) (l : LentOK ids args H r Hout) (hY : Avoids X H pl ids Y) (g' : Good Y B ⟨w, lentH ids H, inPl ids pl⟩ Hout pl' w')
    (hl : (ctx Y (lentH ids H) (inPl ids pl) w).Le (ctx Y Hout pl' w')) {i : Nat} {blk : Blk} {b : Nat} (h1 : Hout[i]? = some blk) (h2 : blk.live) (h3 : b ∈ blk.feet (pl' i)) : ¬ othersX X H pl ids b := by
  intro ho
  have hlt := owned_lt g (others_owned ho)
  rcases hl.own _ hlt (.inr ⟨i, blk, h1, h2, h3⟩) with h | ⟨j, c, k1, k2, k3⟩
  · exact g'.apart i blk b h1 h2 h3 h
  · exact lent_apart g l k1 k2 k3 ho

/-- What is another's is left alone. -/
theorem others_kept (g : Good X B W0 H pl w) (l : LentOK ids args H r Hout) (g' : Good Y B ⟨w, lentH ids H, inPl ids pl⟩ Hout pl' w')
    (hl : (ctx Y (lentH ids H) (inPl ids pl) w).Le (ctx Y Hout pl' w')) {b : Nat} (h : othersX X H pl ids b) : w'.heap[b]? = w.heap[b]? := by
  by_cases hy : Y b
  · exact g'.keepX b hy
  · refine hl.keep b (owned_lt g (others_owned h)) fun o => ?_
    rcases o with o | ⟨j, c, k1, k2, k3⟩
    · exact hy o
    · exact lent_apart g l k1 k2 k3 h

theorem hs_out (l : LentOK ids args H r Hout) {i k : Nat} {v : Value} (h : hsOK Hout pl' i k v) : hsOK (outH ids H Hout) (outPl ids H.length pl pl') (outM ids H.length i) k v := by
  have hc := List.getElem?_eq_getElem h.1
  obtain ⟨e1, e2⟩ := out_get (pl := pl) (pl' := pl') l hc
  exact hsOK_move h ⟨_, e1, by rw [renB_id]; exact hc⟩ e2
theorem hp_out (l : LentOK ids args H r Hout) {i k : Nat} {p : List Nat} {v : Value} (h : hpOK Hout pl' i k p v) : hpOK (outH ids H Hout) (outPl ids H.length pl pl') (outM ids H.length i) k p v := by
  have hc := List.getElem?_eq_getElem h.1
  obtain ⟨e1, e2⟩ := out_get (pl := pl) (pl' := pl') l hc
  exact hpOK_move h ⟨_, e1, by rw [renB_id]; exact hc⟩ e2

theorem rens_out (l : LentOK ids args H r Hout) (hY : ∀ b, othersX X H pl ids b → Y b) : Rens (outM ids H.length) (below Hout.length) (ctx Y Hout pl' w') (ctx X (outH ids H Hout) (outPl ids H.length pl pl') w') := by
  refine ⟨rfl, fun b h => ?_, fun i k v _ h => hs_out l h, fun i k p v _ h => hp_out l h⟩
  rcases owned_out l b h with h | h
  · exact .inl (hY b h)
  · exact .inr h

theorem le_out (g : Good X B W0 H pl w) (l : LentOK ids args H r Hout) (hY : Avoids X H pl ids Y) (g' : Good Y B ⟨w, lentH ids H, inPl ids pl⟩ Hout pl' w')
    (hl : (ctx Y (lentH ids H) (inPl ids pl) w).Le (ctx Y Hout pl' w')) :
    (ctx X H pl w).Le (ctx X (outH ids H Hout) (outPl ids H.length pl pl') w') := by
  refine ⟨hl.size, fun b hb ho => hl.keep b hb fun o => ho (owned_in l hY b o), fun b hb ho => ?_, fun i n v h => ?_, fun i n p v h => ?_⟩
  · rcases owned_out l b ho with h | h
    · exact others_owned h
    · exact owned_in l hY b (hl.own b hb (.inr h))
  · by_cases hm : i ∈ ids
    · have h1 := (rens_in (X := X) (w := w) l hY).hs i n v (memB_iff.2 hm) h
      have h3 := hs_out (pl := pl) l (hl.hs _ _ _ h1)
      have e : outM ids H.length (idxN ids i) = i := by simp [outM, idxN_get hm]
      rw [e] at h3
      exact h3
    · obtain ⟨e1, e2⟩ := out_other (Hout := Hout) (pl := pl) (pl' := pl') h.1 hm
      have hc := List.getElem?_eq_getElem h.1
      exact hsOK_move (m := fun i => i) (μ := fun i => i) h ⟨H[i]'h.1, by rw [renB_id, e1]; exact hc, by rw [renB_id]; exact hc⟩ e2
  · by_cases hm : i ∈ ids
    · have h1 := (rens_in (X := X) (w := w) l hY).hp i n p v (memB_iff.2 hm) h
      have h3 := hp_out (pl := pl) l (hl.hp _ _ _ _ h1)
      have e : outM ids H.length (idxN ids i) = i := by simp [outM, idxN_get hm]
      rw [e] at h3
      exact h3
    · obtain ⟨e1, e2⟩ := out_other (Hout := Hout) (pl := pl) (pl' := pl') h.1 hm
      have hc := List.getElem?_eq_getElem h.1
      exact hpOK_move (m := fun i => i) (μ := fun i => i) h ⟨H[i]'h.1, by rw [renB_id, e1]; exact hc, by rw [renB_id]; exact hc⟩ e2

theorem good_out (g : Good X B W0 H pl w) (l : LentOK ids args H r Hout) (hY : Avoids X H pl ids Y) (g' : Good Y B ⟨w, lentH ids H, inPl ids pl⟩ Hout pl' w')
    (hl : (ctx Y (lentH ids H) (inPl ids pl) w).Le (ctx Y Hout pl' w')) (hk : ∀ v b, b ∈ Hout → BlkOK B (ctx Y Hout pl' w') v b → BlkOK B (ctx X (outH ids H Hout) (outPl ids H.length pl pl') w') v (renB (outM ids H.length) b)) :
    Good X B W0 (outH ids H Hout) (outPl ids H.length pl pl') w' := by
  have hle := le_out g l hY g' hl
  have oth : ∀ {j : Nat} {blk : Blk} {b : Nat}, H[j]? = some blk → j ∉ ids → blk.live → b ∈ blk.feet (pl j) → othersX X H pl ids b := fun h1 h2 h3 h4 => .inr ⟨_, _, h2, h1, h3, h4⟩
  refine ⟨g.below.trans (g'.below.mono (Nat.le_refl _)), g.base, fun j b hb => ?_, fun i j bi bj b hi li hj lj ai aj => ?_, fun i bi hi li => ?_, g.xlt, fun b h => (others_kept g l g' hl (.inl h)).trans (g.keepX b h), fun j bj b hb lv hv => ?_⟩
  · rcases out_cases l hb with ⟨i, c, h1, rfl, rfl⟩ | ⟨h1, h2, h3⟩
    · rw [(out_get (pl := pl) (pl' := pl') l h1).2]
      exact hk _ c (List.mem_of_getElem? h1) (g'.ok i c h1)
    · rw [(out_other (Hout := Hout) (pl := pl) (pl' := pl') h1 h2).2]
      by_cases lv : b.live
      · exact (g.ok j b h3).mono hle fun c hv => others_kept g l g' hl (oth h3 h2 lv hv)
      · cases b <;> first | trivial | exact absurd trivial lv
  · rcases out_cases l hi with ⟨i', c, h1, rfl, rfl⟩ | ⟨h1, h2, h3⟩
    · rw [(out_get (pl := pl) (pl' := pl') l h1).2, renB_feet] at ai
      rcases out_cases l hj with ⟨j', c', k1, rfl, rfl⟩ | ⟨k1, k2, k3⟩
      · rw [(out_get (pl := pl) (pl' := pl') l k1).2, renB_feet] at aj
        rw [g'.inj i' j' c c' b h1 (renB_live.1 li) k1 (renB_live.1 lj) ai aj]
      · rw [(out_other (Hout := Hout) (pl := pl) (pl' := pl') k1 k2).2] at aj
        exact absurd (oth k3 k2 lj aj) (callee_apart g l hY g' hl h1 (renB_live.1 li) ai)
    · rw [(out_other (Hout := Hout) (pl := pl) (pl' := pl') h1 h2).2] at ai
      rcases out_cases l hj with ⟨j', c', k1, rfl, rfl⟩ | ⟨k1, k2, k3⟩
      · rw [(out_get (pl := pl) (pl' := pl') l k1).2, renB_feet] at aj
        exact absurd (oth h3 h2 li ai) (callee_apart g l hY g' hl k1 (renB_live.1 lj) aj)
      · rw [(out_other (Hout := Hout) (pl := pl) (pl' := pl') k1 k2).2] at aj
        exact g.inj i j bi bj b h3 li k3 lj ai aj
  · rcases out_cases l hi with ⟨i', c, h1, rfl, rfl⟩ | ⟨h1, h2, h3⟩
    · rw [(out_get (pl := pl) (pl' := pl') l h1).2, renB_feet]
      exact g'.nd i' c h1 (renB_live.1 li)
    · rw [(out_other (Hout := Hout) (pl := pl) (pl' := pl') h1 h2).2]
      exact g.nd i bi h3 li
  · rcases out_cases l hb with ⟨i, c, h1, rfl, rfl⟩ | ⟨h1, h2, h3⟩
    · rw [(out_get (pl := pl) (pl' := pl') l h1).2, renB_feet] at hv
      exact fun h => callee_apart g l hY g' hl h1 (renB_live.1 lv) hv (.inl h)
    · rw [(out_other (Hout := Hout) (pl := pl) (pl' := pl') h1 h2).2] at hv
      exact g.apart j bj b h3 lv hv

end

mutual
/-- Flat but for handles. -/
def flatH : LV → Bool
  | .int _ _ | .bool _ | .str _ | .nil | .lit _ | .hs _ _ | .hp _ _ _ => true
  | .st fs => flatHs fs
  | .tup fs => flatHs fs
  | _ => false
def flatHs : List LV → Bool
  | [] => true
  | x :: xs => flatH x && flatHs xs
end
section
variable {m : Nat → Nat} {ρ ρ' : Ctx} (hw : ρ'.w = ρ.w) (hs : ∀ i k v, ρ.hs i k v → ρ'.hs (m i) k v) (hp : ∀ i k p v, ρ.hp i k p v → ρ'.hp (m i) k p v)
include hw hs hp
mutual
theorem RC_renF : ∀ (x : LV) (cs : List Value), flatH x = true → RC ρ x cs → RC ρ' (renL m x) cs
  | .int _ _, _, _, k => by simp only [RC, renL] at k ⊢; exact k
  | .bool _, _, _, k => by simp only [RC, renL] at k ⊢; exact k
  | .lit _, _, _, k => by simp only [RC, renL] at k ⊢; exact k
  | .str _, _, _, k => by simp only [RC, renL] at k ⊢; exact k
  | .nil, _, _, k => by simp only [RC, renL] at k ⊢; exact k
  | .st fs, cs, f, k => by simp only [flatH] at f; simp only [renL]; rw [RC_st] at k ⊢; exact RCs_renF fs cs f k
  | .tup _, _, _, k => by simp [RC] at k
  | .hs i n, cs, _, k => by
    simp only [RC, renL] at k ⊢
    obtain ⟨v, rfl, k⟩ := k
    exact ⟨v, rfl, hs _ _ _ k⟩
  | .hp i n p, cs, _, k => by
    simp only [RC, renL] at k ⊢
    obtain ⟨v, rfl, k⟩ := k
    exact ⟨v, rfl, hp _ _ _ _ k⟩
  | .undef, _, f, _ => by simp [flatH] at f
  | .own _ _ _, _, f, _ => by simp [flatH] at f
  | .sl _, _, f, _ => by simp [flatH] at f
  | .ref _, _, f, _ => by simp [flatH] at f
  | .clos _ _, _, f, _ => by simp [flatH] at f
  | .ifc _ _, _, f, _ => by simp [flatH] at f
theorem RCs_renF : ∀ (xs : List LV) (cs : List Value), flatHs xs = true → RCs ρ xs cs → RCs ρ' (renLs m xs) cs
  | [], _, _, k => by simp only [RCs, renLs] at k ⊢; exact k
  | x :: xs, cs, f, k => by
    simp only [flatHs, Bool.and_eq_true] at f
    simp only [RCs, renLs] at k ⊢
    obtain ⟨c1, c2, rfl, k1, k2⟩ := k
    exact ⟨c1, c2, rfl, RC_renF x c1 f.1 k1, RCs_renF xs c2 f.2 k2⟩
end

theorem RT1_renF {x : LV} {v : Value} (f : flatH x = true) (k : RT1 ρ x v) : RT1 ρ' (renL m x) v := by
  unfold RT1 at *
  cases x <;> simp only [renL] at * <;> first
    | exact k
    | (obtain ⟨cs, k1, k2⟩ := k; simp only [flatH] at f; exact ⟨cs, k1, RCs_renF hw hs hp _ _ f k2⟩)
    | (have := RC_renF hw hs hp _ _ f k; simpa only [renL] using this)

theorem flatHs_get : ∀ (xs : List LV) (i : Nat) (x : LV), flatHs xs = true → xs[i]? = some x → flatH x = true
  | [], _, _, _, h => by simp at h
  | x :: xs, 0, y, s, h => by simp only [flatHs, Bool.and_eq_true] at s; simp at h; subst h; exact s.1
  | x :: xs, i + 1, y, s, h => by simp only [flatHs, Bool.and_eq_true] at s; exact flatHs_get xs i y s.2 (by simpa using h)

theorem RT_renF {x : LV} {v : Value} (f : flatH x = true) (k : RT ρ x v) : RT ρ' (renL m x) v := by
  by_cases ht : ∃ vs, x = .tup vs
  · obtain ⟨vs, rfl⟩ := ht
    simp only [RT, renL] at *
    obtain ⟨us, h1, h2, h3⟩ := k
    simp only [flatH] at f
    refine ⟨us, h1, by rw [renLs_len]; exact h2, fun i y u hy hu => ?_⟩
    rw [renLs_map, List.getElem?_map] at hy
    cases hv : vs[i]? with
    | none => rw [hv] at hy; cases hy
    | some z => rw [hv] at hy; cases hy; exact RT1_renF hw hs hp (flatHs_get hw hs hp _ _ _ f hv) (h3 i z u hv hu)
  · have k' : RT1 ρ x v := by cases x <;> first | exact k | (exact absurd ⟨_, rfl⟩ ht)
    have := RT1_renF hw hs hp f k'
    cases x <;> first | exact this | (exact absurd ⟨_, rfl⟩ ht)
end

mutual
/-- Lent as frozen, but for what is lent for writing. -/
def demH (H : List Blk) (ids : List Nat) : LV → (LV → Bool → Prop) → Prop
  | .hs id n, K => match memB ids id with
    | true => K (.hs id n) false
    | false => match H[id]? with | some (.arr _ _ xs) => n = xs.length ∧ K (.sl xs) true | some (.tree _ _ xs) => n = xs.length ∧ ∃ ys, dms xs = ys ∧ K (.sl ys) true | _ => False
  | .hp id n p, K => match memB ids id with
    | true => K (.hp id n p) false
    | false => match ids with | [] => lend1 H (.hp id n p) fun y _ => K y true | _ :: _ => False
  | .st fs, K => demHs H ids fs fun fs' h => K (.st fs') h
  | .clos f c, K => demHs H ids c fun c' h => K (.clos f c') h
  | .ifc f c, K => demHs H ids c fun c' h => K (.ifc f c') h
  | .int k n, K => K (.int k n) false
  | .bool b, K => K (.bool b) false
  | .lit b, K => K (.lit b) false
  | .str s, K => K (.str s) false
  | .sl xs, K => K (.sl xs) false
  | .nil, K => K .nil false
  | .ref c, K => K (.ref c) false
  | .undef, _ => False
  | .own _ _ _, _ => False
  | .tup _, _ => False
def demHs (H : List Blk) (ids : List Nat) : List LV → (List LV → Bool → Prop) → Prop
  | [], K => K [] false
  | x :: xs, K => demH H ids x fun y h => demHs H ids xs fun ys h' => K (y :: ys) (h || h')
end

section
variable {X : Nat → Prop} {B : Nat} {W0 : Orig} {H : List Blk} {pl : Nat → PV} {w : World} {ids : List Nat}

/-- The reading that avoids only what is lent for writing. -/
def lentCtx (X : Nat → Prop) (H : List Blk) (pl : Nat → PV) (ids : List Nat) (w : World) : Ctx := { ctx X H pl w with O := owned (fun _ => False) (lentH ids H) (inPl ids pl) }

theorem lentH_owned {b : Nat} (hlt : ∀ i ∈ ids, i < H.length) (h : owned (fun _ => False) (lentH ids H) (inPl ids pl) b) : ∃ j ∈ ids, ∃ c : Blk, H[j]? = some c ∧ c.live ∧ b ∈ c.feet (pl j) := by
  rcases h with h | ⟨i, blk, h1, h2, h3⟩
  · exact h.elim
  · unfold lentH at h1
    rw [List.getElem?_map] at h1
    cases hq : ids[i]? with
    | none => rw [hq] at h1; cases h1
    | some j =>
      rw [hq] at h1
      simp only [Option.map_some, Option.some.injEq] at h1
      have hm := List.mem_of_getElem? hq
      have hj := hlt j hm
      have e : inPl ids pl i = pl j := by simp [inPl, hq]
      have hb : H.getD j .dead = H[j] := by simp [List.getD_eq_getElem?_getD, hj]
      rw [hb] at h1
      subst h1
      rw [e, renB_feet] at h3
      exact ⟨j, hm, H[j], List.getElem?_eq_getElem hj, renB_live.1 h2, h3⟩

theorem lentH_lt (g : Good X B W0 H pl w) {b : Nat} (hlt : ∀ i ∈ ids, i < H.length) (h : owned (fun _ => False) (lentH ids H) (inPl ids pl) b) : b < w.heap.size := by
  obtain ⟨j, _, c, h1, h2, h3⟩ := lentH_owned hlt h
  exact ((g.ok j c h1).feet_lt h2 h3).2

theorem lentCtx_le (hlt : ∀ i ∈ ids, i < H.length) : (ctx X H pl w).Le (lentCtx X H pl ids w) :=
  ⟨Nat.le_refl _, fun _ _ _ => rfl, fun b _ h => by obtain ⟨j, _, c, h1, h2, h3⟩ := lentH_owned hlt h; exact .inr ⟨j, c, h1, h2, h3⟩, fun _ _ _ h => h, fun _ _ _ _ h => h⟩

def DemOK (X : Nat → Prop) (H : List Blk) (pl : Nat → PV) (ids : List Nat) (w : World) (y : LV) (h : Bool) (cs : List Value) : Prop :=
  RC (lentCtx X H pl ids w) y cs ∧ (h = false → RC (ctx X H pl w) y cs)

theorem DemOK.same (hlt : ∀ i ∈ ids, i < H.length) {y : LV} {cs : List Value} (h : RC (ctx X H pl w) y cs) : DemOK X H pl ids w y false cs := ⟨RC.mono (lentCtx_le hlt) _ _ h, fun _ => h⟩

mutual
theorem demH_sound (g : Good X B W0 H pl w) (hlt : ∀ i ∈ ids, i < H.length) : ∀ (x : LV) (K : LV → Bool → Prop) (cs : List Value), RC (ctx X H pl w) x cs → demH H ids x K → ∃ y h, K y h ∧ DemOK X H pl ids w y h cs ∧ isSt y = isSt x
  | .hs id n, K, cs, h, k => by
    simp only [demH] at k
    split at k
    · exact ⟨_, _, k, .same hlt h, rfl⟩
    · rename_i hm
      split at k
      · rename_i e kk xs hc
        obtain ⟨k1, k2⟩ := k
        refine ⟨_, _, k2, ⟨?_, fun h => by cases h⟩, rfl⟩
        simp only [RC] at h
        obtain ⟨v, rfl, h1, h2, h3⟩ := h
        obtain ⟨es, r1, r2, r3, r4⟩ := g.ok id _ hc
        have hu := h3 _ xs hc rfl k1
        subst hu
        simp only [RC]
        have hid : id ∉ ids := fun hh => by rw [memB_iff.2 hh] at hm; cases hm
        rcases r1.2 with ⟨hv, hn⟩ | ⟨gg, cap, cur, hv, hg, hcur, hc1, hc2, _⟩
        · have : xs = [] := List.eq_nil_of_length_eq_zero hn
          subst this
          exact ⟨none, 0, by rw [hv]; rfl, Nat.le_refl _, Nat.zero_le _, .inl rfl⟩
        · refine ⟨_, cap, by rw [hv], hc1, hc2, .inr ⟨⟨gg, 0, none⟩, es, kk, rfl, ?_, fun o => ?_, ?_, ?_, r3⟩⟩
          · show gg < w.heap.size
            rcases Nat.lt_or_ge gg w.heap.size with h | h
            · exact h
            · have hcur' : w.heap[gg]? = some (.cells cur e (0, 0)) := hcur
              simp [Array.getElem?_eq_none h] at hcur'
          · obtain ⟨j, hj, c, m1, m2, m3⟩ := lentH_owned hlt o
            have := g.inj j id c _ _ m1 m2 hc trivial m3 (mem_feet.2 ⟨by rw [hv]; rfl, by rw [hv]; rfl⟩)
            subst this
            exact hid hj
          · exact RCs.mono (lentCtx_le hlt).pure _ _ r2
          · by_cases he : es = []
            · subst he; exact ⟨rfl, fun j u hu => by simp at hu⟩
            · have := (CellsAt_row (w := w) r1 he).2
              rw [hv] at this
              exact this
      · rename_i e kk xs hc
        obtain ⟨k1, ys, rfl, k2⟩ := k
        refine ⟨_, _, k2, ⟨?_, fun h => by cases h⟩, rfl⟩
        simp only [RC] at h
        obtain ⟨v, rfl, h1, h2, h3⟩ := h
        have hu := h3 _ xs hc rfl k1
        subst hu
        have hid : id ∉ ids := fun hh => by rw [memB_iff.2 hh] at hm; cases hm
        have := tree_frozen (O := owned (fun _ => False) (lentH ids H) (inPl ids pl)) (g.ok id _ hc) (fun b o => (lentCtx_le (X := X) (pl := pl) (w := w) hlt).own b (lentH_lt g hlt o) o) (fun b hb o => by
          obtain ⟨j, hj, c, m1, m2, m3⟩ := lentH_owned hlt o
          have := g.inj j id c _ b m1 m2 hc trivial m3 hb
          subst this
          exact hid hj)
        refine RC.mono (ρ := pctx (owned (fun _ => False) (lentH ids H) (inPl ids pl)) w) ⟨Nat.le_refl _, fun _ _ _ => rfl, fun b _ k => k, fun _ _ _ k => k.elim, fun _ _ _ _ k => k.elim⟩ _ _ this
      · exact k.elim
  | .hp id n p, K, cs, h, k => by
    simp only [demH] at k
    split at k
    · exact ⟨_, _, k, .same hlt h, rfl⟩
    · split at k
      · obtain ⟨y, _, k1, k2, k3⟩ := lend1_sound g (.hp id n p) _ cs h k
        have hle : (pctx (fun _ => False) w).Le (lentCtx X H pl [] w) := ⟨Nat.le_refl _, fun _ _ _ => rfl, fun b _ o => (by obtain ⟨j, hj, _⟩ := lentH_owned hlt o; cases hj), fun _ _ _ k => k.elim, fun _ _ _ _ k => k.elim⟩
        exact ⟨y, true, k1, ⟨RC.mono hle _ _ k2.1, fun e => by cases e⟩, k3⟩
      · exact k.elim
  | .st fs, K, cs, h, k => by
    rw [RC_st] at h
    simp only [demH] at k
    obtain ⟨ys, hh, k1, k2, k3⟩ := demHs_sound g hlt fs _ cs h k
    exact ⟨_, _, k1, ⟨RC_st.2 k2, fun e => RC_st.2 (k3 e)⟩, rfl⟩
  | .clos f c, K, cs, h, k => by
    simp only [RC] at h
    obtain ⟨vs, rfl, h⟩ := h
    simp only [demH] at k
    obtain ⟨ys, hh, k1, k2, k3⟩ := demHs_sound g hlt c _ _ h k
    exact ⟨_, _, k1, ⟨by simp only [RC]; exact ⟨vs, rfl, k2⟩, fun e => by simp only [RC]; exact ⟨vs, rfl, k3 e⟩⟩, rfl⟩
  | .ifc f c, K, cs, h, k => by
    simp only [RC] at h
    obtain ⟨vs, rfl, h⟩ := h
    simp only [demH] at k
    obtain ⟨ys, hh, k1, k2, k3⟩ := demHs_sound g hlt c _ _ h k
    exact ⟨_, _, k1, ⟨by simp only [RC]; exact ⟨vs, rfl, k2⟩, fun e => by simp only [RC]; exact ⟨vs, rfl, k3 e⟩⟩, rfl⟩
  | .int a b, K, cs, h, k => by simp only [demH] at k; exact ⟨_, _, k, .same hlt h, rfl⟩
  | .bool b, K, cs, h, k => by simp only [demH] at k; exact ⟨_, _, k, .same hlt h, rfl⟩
  | .lit b, K, cs, h, k => by simp only [demH] at k; exact ⟨_, _, k, .same hlt h, rfl⟩
  | .str s, K, cs, h, k => by simp only [demH] at k; exact ⟨_, _, k, .same hlt h, rfl⟩
  | .sl xs, K, cs, h, k => by simp only [demH] at k; exact ⟨_, _, k, .same hlt h, rfl⟩
  | .nil, K, cs, h, k => by simp only [demH] at k; exact ⟨_, _, k, .same hlt h, rfl⟩
  | .ref c, K, cs, h, k => by simp only [demH] at k; exact ⟨_, _, k, .same hlt h, rfl⟩
  | .undef, _, _, _, k => by simp [demH] at k
  | .own _ _ _, _, _, _, k => by simp [demH] at k
  | .tup _, _, _, _, k => by simp [demH] at k
theorem demHs_sound (g : Good X B W0 H pl w) (hlt : ∀ i ∈ ids, i < H.length) : ∀ (xs : List LV) (K : List LV → Bool → Prop) (cs : List Value), RCs (ctx X H pl w) xs cs → demHs H ids xs K →
    ∃ ys h, K ys h ∧ RCs (lentCtx X H pl ids w) ys cs ∧ (h = false → RCs (ctx X H pl w) ys cs)
  | [], K, cs, h, k => by
    simp only [RCs] at h
    simp only [demHs] at k
    exact ⟨_, _, k, by simp only [RCs]; exact h, fun _ => by simp only [RCs]; exact h⟩
  | x :: xs, K, cs, h, k => by
    simp only [RCs] at h
    obtain ⟨c1, c2, rfl, h1, h2⟩ := h
    simp only [demHs] at k
    obtain ⟨y, hy, k1, k2, _⟩ := demH_sound g hlt x _ c1 h1 k
    obtain ⟨ys, hys, k3, k4, k5⟩ := demHs_sound g hlt xs _ c2 h2 k1
    refine ⟨_, _, k3, by simp only [RCs]; exact ⟨c1, c2, rfl, k2.1, k4⟩, fun e => ?_⟩
    simp only [Bool.or_eq_false_iff] at e
    simp only [RCs]
    exact ⟨c1, c2, rfl, k2.2 e.1, k5 e.2⟩
end

theorem dem_RT (g : Good X B W0 H pl w) (hlt : ∀ i ∈ ids, i < H.length) {x : LV} {K : LV → Bool → Prop} {v : Value} (h : RT (ctx X H pl w) x v) (k : demH H ids x K) :
    ∃ y b, K y b ∧ RT (lentCtx X H pl ids w) y v ∧ (b = false → RT (ctx X H pl w) y v) := by
  have hb : okBox x = true := by cases x <;> first | rfl | (simp [demH] at k)
  by_cases hst : ∃ fs, x = .st fs
  · obtain ⟨fs, rfl⟩ := hst
    obtain ⟨cs, rfl, h1⟩ := h
    simp only [demH] at k
    obtain ⟨ys, b, k1, k2, k3⟩ := demHs_sound g hlt fs _ _ h1 k
    exact ⟨_, _, k1, ⟨cs, rfl, k2⟩, fun e => ⟨cs, rfl, k3 e⟩⟩
  · have h1 : RC (ctx X H pl w) x [v] := by
      cases x <;> first | (exact absurd ⟨_, rfl⟩ hst) | (cases hb; done) | exact h
    obtain ⟨y, b, k1, k2, k3⟩ := demH_sound g hlt x K [v] h1 k
    have hy : ∀ {ρ : Ctx}, RC ρ y [v] → RT ρ y v := by
      intro ρ hr
      cases y <;> first
        | exact True.intro
        | (simp only [RC] at hr; done)
        | exact hr
        | (cases x <;> first | (exact absurd ⟨_, rfl⟩ hst) | (cases k3; done))
    exact ⟨y, b, k1, hy k2.1, fun e => hy (k2.2 e)⟩

theorem demV_sound (g : Good X B W0 H pl w) (hlt : ∀ i ∈ ids, i < H.length) : ∀ (xs : List LV) (vs : List Value) (K : List LV → Bool → Prop), vs.length = xs.length → (∀ (i : Nat) x v, xs[i]? = some x → vs[i]? = some v → RT (ctx X H pl w) x v) → demHs H ids xs K →
    ∃ ys h, K ys h ∧ ys.length = xs.length ∧ ∀ (i : Nat) y v, ys[i]? = some y → vs[i]? = some v → RT (lentCtx X H pl ids w) y v ∧ (h = false → RT (ctx X H pl w) y v)
  | [], _, K, _, _, k => by simp only [demHs] at k; exact ⟨_, _, k, rfl, fun i y v hy => by simp at hy⟩
  | x :: xs, [], K, hl, _, k => by simp at hl
  | x :: xs, v0 :: vs, K, hl, hr, k => by
    simp only [demHs] at k
    obtain ⟨y, b, k1, k2, k3⟩ := dem_RT g hlt (hr 0 x v0 rfl rfl) k
    obtain ⟨ys, b', k4, k5, k6⟩ := demV_sound g hlt xs vs _ (by simpa using hl) (fun i x v hx hv => hr (i + 1) x v (by simpa using hx) (by simpa using hv)) k1
    refine ⟨_, _, k4, by simp [k5], fun i z v hz hv => ?_⟩
    cases i with
    | zero =>
      simp only [List.getElem?_cons_zero, Option.some.injEq] at hz hv
      subst hz; subst hv
      exact ⟨k2, fun e => k3 (by simp only [Bool.or_eq_false_iff] at e; exact e.1)⟩
    | succ i =>
      have := k6 i z v (by simpa using hz) (by simpa using hv)
      exact ⟨this.1, fun e => this.2 (by simp only [Bool.or_eq_false_iff] at e; exact e.2)⟩
end

mutual
/-- Flat, or an own row of what is flat. -/
def flatT1 : LV → Bool
  | .int _ _ | .bool _ | .str _ | .nil | .lit _ => true
  | .st fs => flatTs fs
  | .own _ _ xs => flatsB xs
  | _ => false
def flatTs : List LV → Bool
  | [] => true
  | x :: xs => flatT1 x && flatTs xs
end
mutual
theorem RRc_flatT {w : World} {O O' : Nat → Prop} {B : Nat} : ∀ (x : LV) (cs : List Value) (bs : List Nat), flatT1 x = true → RRc w O B x cs bs → RRc w O' B x cs bs
  | .own e k xs, cs, bs, f, h => by
    simp only [RRc] at h ⊢
    simp only [flatT1] at f
    obtain ⟨v, es, h1, h2, h3, h4⟩ := h
    exact ⟨v, es, h1, h2, RCs_flat xs es f h3, h4⟩
  | .st fs, cs, bs, f, h => by simp only [RRc] at h ⊢; simp only [flatT1] at f; exact RRcs_flatT fs cs bs f h
  | .int k n, cs, bs, _, h => by simp only [RRc, RC] at h ⊢; exact h
  | .bool b, cs, bs, _, h => by simp only [RRc, RC] at h ⊢; exact h
  | .lit b, cs, bs, _, h => by simp only [RRc, RC] at h ⊢; exact h
  | .str s, cs, bs, _, h => by simp only [RRc, RC] at h ⊢; exact h
  | .nil, cs, bs, _, h => by simp only [RRc, RC] at h ⊢; exact h
  | .undef, _, _, f, _ => by simp [flatT1] at f
  | .sl _, _, _, f, _ => by simp [flatT1] at f
  | .tup _, _, _, f, _ => by simp [flatT1] at f
  | .ref _, _, _, f, _ => by simp [flatT1] at f
  | .clos _ _, _, _, f, _ => by simp [flatT1] at f
  | .ifc _ _, _, _, f, _ => by simp [flatT1] at f
  | .hs _ _, _, _, f, _ => by simp [flatT1] at f
  | .hp _ _ _, _, _, f, _ => by simp [flatT1] at f
theorem RRcs_flatT {w : World} {O O' : Nat → Prop} {B : Nat} : ∀ (xs : List LV) (cs : List Value) (bs : List Nat), flatTs xs = true → RRcs w O B xs cs bs → RRcs w O' B xs cs bs
  | [], cs, bs, _, h => by simp only [RRcs] at h ⊢; exact h
  | x :: xs, cs, bs, f, h => by
    simp only [flatTs, Bool.and_eq_true] at f
    simp only [RRcs] at h ⊢
    obtain ⟨c1, c2, b1, b2, e1, e2, h1, h2⟩ := h
    exact ⟨c1, c2, b1, b2, e1, e2, RRc_flatT x c1 b1 f.1 h1, RRcs_flatT xs c2 b2 f.2 h2⟩
end

/-- What a call may leave where something was lent as frozen. -/
def flatBlks : List Blk → Prop
  | [] => True
  | .box c :: bs => flatH c = true ∧ flatBlks bs
  | .row false _ _ xs :: bs => flatsB xs = true ∧ flatBlks bs
  | .row true _ _ xs :: bs => flatTs xs = true ∧ flatBlks bs
  | .dead :: bs => flatBlks bs
  | .it _ _ :: bs => flatBlks bs
  | .bld _ _ _ _ :: bs => flatBlks bs
  | .mp _ _ :: bs => flatBlks bs
  | .opn _ _ _ _ _ :: _ => False

theorem flatBlks_mem : ∀ {bs : List Blk} {b : Blk}, flatBlks bs → b ∈ bs → match b with | .box c => flatH c = true | .row false _ _ xs => flatsB xs = true | .row true _ _ xs => flatTs xs = true | .opn _ _ _ _ _ => False | _ => True
  | [], _, _, h => by simp at h
  | c :: bs, b, h, hm => by
    rcases List.mem_cons.1 hm with rfl | hm
    · cases b with
      | row t _ _ _ => cases t <;> simp only [flatBlks] at h ⊢ <;> exact h.1
      | opn => simp only [flatBlks] at h
      | box => simp only [flatBlks] at h ⊢; exact h.1
      | dead => trivial
      | it => trivial
      | bld => trivial
      | mp => trivial
    · refine flatBlks_mem (bs := bs) ?_ hm
      cases c with
      | row t _ _ _ => cases t <;> simp only [flatBlks] at h <;> exact h.2
      | opn => simp only [flatBlks] at h
      | box => simp only [flatBlks] at h; exact h.2
      | dead => simp only [flatBlks] at h; exact h
      | it => simp only [flatBlks] at h; exact h
      | bld => simp only [flatBlks] at h; exact h
      | mp => simp only [flatBlks] at h; exact h

/-- The blocks behind the call, the list written out. -/
def renBK (m : Nat → Nat) (b : Blk) (K : Blk → Prop) : Prop :=
  match b with
  | .box c => deepK (renL m c) fun c' => K (.box c')
  | .dead => K .dead
  | .row t e k xs => K (.row t e k xs)
  | .it s p => K (.it s p)
  | .opn e k g j n => K (.opn e k g (m j) n)
  | .bld t e us l => K (.bld t e us l)
  | .mp mk L => K (.mp mk L)
theorem renBK_eq (m : Nat → Nat) (b : Blk) (K : Blk → Prop) : renBK m b K = K (renB m b) := by cases b <;> simp [renBK, renB, deepK_eq]
/-- A block behind the others, the list written out. -/
def appK : List Blk → Blk → (List Blk → Prop) → Prop
  | [], b, K => K [b]
  | x :: xs, b, K => appK xs b fun r => K (x :: r)
theorem appK_eq : ∀ (H : List Blk) (b : Blk) (K : List Blk → Prop), appK H b K = K (H ++ [b])
  | [], _, _ => rfl
  | x :: xs, b, K => by simp only [appK, appK_eq xs b, List.cons_append]
def setHK : List Blk → Nat → Blk → (List Blk → Prop) → Prop
  | [], _, _, K => K []
  | _ :: xs, 0, b, K => K (b :: xs)
  | x :: xs, n + 1, b, K => setHK xs n b fun r => K (x :: r)
theorem setHK_eq : ∀ (H : List Blk) (d : Nat) (b : Blk) (K : List Blk → Prop), setHK H d b K = K (H.set d b)
  | [], _, _, _ => rfl
  | _ :: _, 0, _, _ => rfl
  | y :: ys, n + 1, b, K => by simp only [setHK, setHK_eq ys n b, List.set_cons_succ]
def appsK (m : Nat → Nat) : List Blk → List Blk → (List Blk → Prop) → Prop
  | H, [], K => K H
  | H, b :: bs, K => renBK m b fun b' => appK H b' fun H' => appsK m H' bs K
theorem appsK_eq (m : Nat → Nat) : ∀ (bs H : List Blk) (K : List Blk → Prop), appsK m H bs K = K (H ++ bs.map (renB m))
  | [], H, K => by simp [appsK]
  | b :: bs, H, K => by simp only [appsK, renBK_eq, appK_eq, appsK_eq m bs, List.map_cons, List.append_assoc, List.singleton_append]
def putBsK (m : Nat → Nat) : List Blk → List Nat → List Blk → (List Blk → Prop) → Prop
  | H, [], bs, K => appsK m H bs K
  | H, id :: ids, b :: bs, K => renBK m b fun b' => setHK H id b' fun H' => putBsK m H' ids bs K
  | H, _ :: _, [], K => K H
theorem putBsK_eq (m : Nat → Nat) : ∀ (ids : List Nat) (H bs : List Blk) (K : List Blk → Prop), putBsK m H ids bs K = K (putBs m H ids bs)
  | [], H, bs, K => by simp only [putBsK, putBs, appsK_eq]
  | id :: ids, H, [], K => rfl
  | id :: ids, H, b :: bs, K => by simp only [putBsK, putBs, renBK_eq, setHK_eq, putBsK_eq m ids]

/-- A call by such a contract. -/
def callH (P : Program) (H : List Blk) (f : FuncId) (args : List LV) (K : LV → List Blk → Prop) : Prop :=
  ∃ ids as Hin r Hout, HSpec P f as Hin r Hout ∧ lentH ids H = Hin ∧ demHs H ids args fun args' d => renLs (idxN ids) args' = as ∧ lentB ids args' H r Hout = true ∧
    (match d with | false => True | true => flatH r = true ∧ flatBlks Hout) ∧ putBsK (outM ids H.length) H ids Hout fun H' => K (renL (outM ids H.length) r) H'

end Go.Lg

