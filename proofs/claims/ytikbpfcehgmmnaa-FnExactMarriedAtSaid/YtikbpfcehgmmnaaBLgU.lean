/- More operations: append, literals of slices and structs, function values, conversions of integers, ranges over strings. -/
import Derived.Test.YtikbpfcehgmmnaaBLgR
import Derived.Maps.AppendAt
import Derived.Great.FillDense
import Derived.Great.BuildSlice
import Derived.Lib.OthersKept
namespace Go.Lg
set_option linter.unusedVariables false
set_option linter.unusedSimpArgs false
open Go.RowKit

section
variable {P : Program} {X : Nat → Prop} {B : Nat} {W0 : Orig} {ts : List LV} {H : List Blk} {a : Act} {pl : Nat → Value} {w : World} {T : Tab} {Z : ZTab}

/-! ### append -/

theorem bk_own {v : Value} {g : Nat} (h : v.ownBlock = some g) : hasBk v = true ∧ bk v = g := by
  cases v <;> simp only [Value.ownBlock] at h <;> try cases h
  rename_i a l c
  cases a <;> simp only [Value.ownBlock] at h <;> cases h
  exact ⟨rfl, rfl⟩

/-- A row is grown: the one that it grew out of is no more, a new one lies behind. -/
theorem sim_append (s : Sim X B W0 ⟨ts, H⟩ a w pl) {H1 : List Blk} {v v' : Value} {w' : World} {e : TypeId} {k : Nat} {zs : List LV} {es : List Value}
    (hlen : H1.length = H.length) (h1 : ∀ (i : Nat) (b : Blk), H1[i]? = some b → H[i]? = some b ∨ b = Blk.dead)
    (hother : ∀ (i : Nat) (b : Blk), H1[i]? = some b → b.live → hasBk (pl i) = true → v.ownBlock ≠ some (bk (pl i)))
    (hv : ∀ g, v.ownBlock = some g → ∃ id blk, H[id]? = some blk ∧ blk.live ∧ hasBk (pl id) = true ∧ bk (pl id) = g)
    (hg : w.grownBy w' v.ownBlock) (hr : w'.ownsRow B e k v' zs.length es) (hv' : v'.ownBlock = v.ownBlock ∨ v'.ownBlock = some w.heap.size)
    (hz : RCs (ctx X H pl w).pure zs es) (hk : ∀ x ∈ zs, x.size = k) (h0 : 0 < k) :
    ∃ pl', Sim X B W0 ⟨ts, H1 ++ [.arr e k zs]⟩ a w' pl' ∧ RT (ctx X (H1 ++ [.arr e k zs]) pl' w') (.hs H1.length zs.length) v' ∧ (ctx X H pl w).Le (ctx X (H1 ++ [.arr e k zs]) pl' w') := by
  have hvo : ∀ g, v.ownBlock = some g → owned X H pl g := fun g h => by obtain ⟨id, blk, k1, k2, k3, k4⟩ := hv g h; exact .inr ⟨id, blk, k1, k2, k3, k4⟩
  have hvB : ∀ g, v.ownBlock = some g → B ≤ g := fun g h => by obtain ⟨id, blk, k1, k2, k3, rfl⟩ := hv g h; exact ((s.good.ok id blk k1).hasBk_lt k2 k3).1
  have hvX : ∀ g, v.ownBlock = some g → ¬ X g := fun g h => by obtain ⟨id, blk, k1, k2, k3, rfl⟩ := hv g h; exact s.good.apart id blk k1 k2 k3
  have hb' : ∀ g, hasBk v' = true → bk v' = g → v'.ownBlock = some g := fun g k1 k2 => by
    rcases hr.2 with ⟨rfl, _⟩ | ⟨g', cap, cur, rfl, _⟩
    · simp [hasBk] at k1
    · simp [bk] at k2; subst k2; rfl
  have old : ∀ {i : Nat} {b : Blk}, H1[i]? = some b → b.live → H[i]? = some b := fun {i b} hi lv => by
    rcases h1 i b hi with h | rfl
    · exact h
    · exact lv.elim
  have hle : (ctx X H pl w).Le (ctx X (H1 ++ [.arr e k zs]) (upd pl H1.length v') w') := by
    refine ⟨hg.size, fun b hb ho => hg.block b hb fun e => ho (hvo b e.symm), fun b hb ho => ?_, fun i n u h => ?_, fun i n p u h => ?_⟩
    · rcases ho with ho | ⟨id, blk, k1, k2, k3, k4⟩
      · exact .inl ho
      by_cases e : id = H1.length
      · subst e
        rw [upd_same] at k3 k4
        have := hb' b k3 k4
        rcases hv' with h | h
        · rw [this] at h; exact hvo b h.symm
        · rw [this] at h
          cases h
          exact absurd (show w.heap.size < w.heap.size from hb) (Nat.lt_irrefl _)
      · have hlt : id < H1.length := by have := lt_of_get k1; simp at this; omega
        rw [push_old hlt] at k1
        rw [upd_other _ e] at k3 k4
        exact .inr ⟨id, blk, old k1 k2, k2, k3, k4⟩
    · obtain ⟨j1, j2, j3⟩ := h
      refine ⟨by simp; omega, j2, fun e' k' ys hy hn => ?_⟩
      rw [push_old (by omega)] at hy
      rw [upd_other _ (by omega)]
      exact j3 e' k' ys (old hy trivial) hn
    · obtain ⟨j1, j2, j3, j4, j5⟩ := h
      refine ⟨by simp; omega, j2, ?_, ?_, ?_⟩
      · intro c o hx ho; rw [push_old (by omega)] at hx; rw [upd_other _ (by omega)]; exact j3 c o (old hx trivial) ho
      · intro e' k' xs o hx hn ho; rw [push_old (by omega)] at hx; rw [upd_other _ (by omega)]; exact j4 e' k' xs o (old hx trivial) hn ho
      · intro s' q hx; rw [push_old (by omega)] at hx; rw [upd_other _ (by omega)]; exact j5 s' q (old hx trivial)
  have fresh : ∀ {i : Nat} {b : Blk}, H1[i]? = some b → b.live → hasBk (pl i) = true → hasBk v' = true → bk (pl i) ≠ bk v' := by
    intro i b hi lv hp hq heq
    have hvb := hb' _ hq rfl
    rcases hv' with h | h
    · exact hother i b hi lv hp (by rw [← h, hvb, heq])
    · rw [hvb] at h
      have := ((s.good.ok i b (old hi lv)).hasBk_lt lv hp).2
      simp only [Option.some.injEq] at h
      have : bk (pl i) < w.heap.size := this
      omega
  refine ⟨upd pl H1.length v', ⟨⟨s.good.below.trans ⟨hg.os, hg.tape, hg.output, hg.size, fun b hb => hg.block b (Nat.lt_of_lt_of_le hb (Nat.le_trans s.good.base s.good.below.size)) fun e => ?_⟩, s.good.base, fun id b hb => ?_,
    fun i j bi bj hi li hj lj ai aj hij => ?_, s.good.xlt, fun b hb => (hg.block b (Nat.lt_of_lt_of_le (s.good.xlt b hb) s.good.below.size) fun e => hvX b e.symm hb).trans (s.good.keepX b hb), fun id b hb lv hq => ?_⟩,
    s.defers, s.size, fun t x hx => RT.mono hle _ _ (s.tmps t x hx), s.le.trans hle⟩, ?_, hle⟩
  · have := hvB b e.symm; omega
  · by_cases e' : id = H1.length
    · subst e'
      rw [push_new] at hb
      cases hb
      rw [upd_same]
      exact ⟨es, hr, RCs.mono hle.pure _ _ hz, hk, h0⟩
    · have hlt : id < H1.length := by have := lt_of_get hb; simp at this; omega
      rw [push_old hlt] at hb
      rw [upd_other _ e']
      by_cases lv : b.live
      · exact (s.good.ok id b (old hb lv)).mono hle fun hq => hg.block _ ((s.good.ok id b (old hb lv)).hasBk_lt lv hq).2 fun e => hother id b hb lv hq e.symm
      · cases b <;> first | trivial | exact absurd trivial lv
  · by_cases ei : i = H1.length
    · by_cases ej : j = H1.length
      · omega
      · have hlt : j < H1.length := by have := lt_of_get hj; simp at this; omega
        rw [push_old hlt] at hj
        rw [upd_other _ ej] at aj hij
        subst ei
        rw [upd_same] at ai hij
        exact absurd hij.symm (fresh hj lj aj ai)
    · have hlt : i < H1.length := by have := lt_of_get hi; simp at this; omega
      rw [push_old hlt] at hi
      rw [upd_other _ ei] at ai hij
      by_cases ej : j = H1.length
      · subst ej
        rw [upd_same] at aj hij
        exact absurd hij (fresh hi li ai aj)
      · have hlt' : j < H1.length := by have := lt_of_get hj; simp at this; omega
        rw [push_old hlt'] at hj
        rw [upd_other _ ej] at aj hij
        exact s.good.inj i j bi bj (old hi li) li (old hj lj) lj ai aj hij
  · by_cases e' : id = H1.length
    · subst e'
      rw [upd_same] at hq ⊢
      intro hx
      have hvb := hb' _ hq rfl
      rcases hv' with h | h
      · exact hvX _ (h ▸ hvb) hx
      · rw [hvb] at h
        have h1 := s.good.xlt _ hx
        have h2 := s.good.below.size
        simp only [Option.some.injEq] at h
        omega
    · have hlt : id < H1.length := by have := lt_of_get hb; simp at this; omega
      rw [push_old hlt] at hb
      rw [upd_other _ e'] at hq ⊢
      exact s.good.apart id b (old hb lv) lv hq
  · have hslice : ∃ a l c, v' = .slice a l c := by
      rcases hr.2 with ⟨rfl, _⟩ | ⟨g', cap, cur, rfl, _⟩ <;> exact ⟨_, _, _, rfl⟩
    have : RC (ctx X (H1 ++ [.arr e k zs]) (upd pl H1.length v') w') (.hs H1.length zs.length) [v'] := by
      simp only [RC]
      exact ⟨v', rfl, by simp, hslice, fun e' k' ys hy hn => by rw [upd_same]⟩
    simpa only [RT, RT1] using this

def appendTo (H : List Blk) (e : TypeId) (ei : TyI) (s : LV) (ys : List LV) (K : LV → List Blk → Prop) : Prop :=
  match s with
  | .nil => ys.length ≤ maxLen ∧ ys.length * ei.bytes ≤ 140737488355328 ∧ appK H (.arr e ei.size ys) fun H' => K (.hs H.length ys.length) H'
  | .hs id n => match H[id]? with
    | some (.arr e1 k1 xs) => match Nat.beq e1 e && Nat.beq k1 ei.size with
      | true => n = xs.length ∧ (xs ++ ys).length ≤ maxLen ∧ (xs ++ ys).length * ei.bytes ≤ 140737488355328 ∧ setHK H id .dead fun H1 => appK H1 (.arr e ei.size (xs ++ ys)) fun H' => K (.hs H.length (xs ++ ys).length) H'
      | false => False
    | _ => False
  | _ => False

def appendW (T : Tab) (Z : ZTab) (H : List Blk) (t : TypeId) (s x : LV) (K : LV → List Blk → Prop) : Prop :=
  match T t with
  | some ⟨.slice e, _, _⟩ => match T e with
    | some ei => match Z e with
      | some z => match Nat.beq z.size ei.size && Nat.blt 0 ei.size with
        | true => match x with
          | .sl ys => (∀ y ∈ ys, y.size = ei.size) ∧ appendTo H e ei s ys K
          | .hs j m => match H[j]? with
            | some (.arr _ k2 ys) => match Nat.beq k2 ei.size with
              | true => m = ys.length ∧ appendTo H e ei s ys K
              | false => False
            | _ => False
          | _ => False
        | false => False
      | none => False
    | none => False
  | _ => False

theorem appendTo_ex {e : TypeId} {ei : TyI} {u : LV} {ys : List LV} {K : LV → List Blk → Prop} (h : appendTo H e ei u ys K) :
    ∃ x H', K x H' ∧ ∀ K' : LV → List Blk → Prop, K' x H' → appendTo H e ei u ys K' := by
  unfold appendTo at h ⊢
  cases u <;> simp only at h ⊢ <;> try exact h.elim
  · obtain ⟨h1, h2, h3⟩ := h
    rw [appK_eq] at h3
    exact ⟨_, _, h3, fun K' h => ⟨h1, h2, by rw [appK_eq]; exact h⟩⟩
  · rename_i id n
    cases hc : H[id]? with
    | none => rw [hc] at h; exact h.elim
    | some b =>
      rw [hc] at h
      cases b <;> simp only at h ⊢ <;> try exact h.elim
      split at h
      · rename_i hb
        obtain ⟨h1, h2, h3, h4⟩ := h
        rw [setHK_eq, appK_eq] at h4
        exact ⟨_, _, h4, fun K' h => by try simp only [hb]
                                        exact ⟨h1, h2, h3, by rw [setHK_eq, appK_eq]; exact h⟩⟩
      · exact h.elim

theorem appendW_ex {t : TypeId} {u x : LV} {K : LV → List Blk → Prop} (h : appendW T Z H t u x K) :
    ∃ y H', K y H' ∧ ∀ K' : LV → List Blk → Prop, K' y H' → appendW T Z H t u x K' := by
  unfold appendW at h ⊢
  split at h
  · rename_i e sz by' hi
    try simp only [hi]
    cases hei : T e with
    | none => rw [hei] at h; exact h.elim
    | some ei =>
      rw [hei] at h
      simp only at h ⊢
      cases hz : Z e with
      | none => rw [hz] at h; exact h.elim
      | some z =>
        rw [hz] at h
        simp only at h ⊢
        split at h
        · rename_i hb
          try simp only [hb]
          cases x <;> simp only at h ⊢ <;> try exact h.elim
          · obtain ⟨y, H', h1, h2⟩ := appendTo_ex h.2
            exact ⟨y, H', h1, fun K' k => ⟨h.1, h2 K' k⟩⟩
          · rename_i j m
            cases hc : H[j]? with
            | none => rw [hc] at h; exact h.elim
            | some b =>
              rw [hc] at h
              cases b <;> simp only at h ⊢ <;> try exact h.elim
              split at h
              · rename_i hb2
                obtain ⟨y, H', h1, h2⟩ := appendTo_ex h.2
                refine ⟨y, H', h1, fun K' k => ?_⟩
                try simp only [hb2]
                exact ⟨h.1, h2 K' k⟩
              · exact h.elim
        · exact h.elim
  · exact h.elim

theorem run_append_none (t ty e : TypeId) (i : TypeInfo) (c : Nat) (ht : P.underlying t = some (.slice e)) (hi : P.info? e = some i) {base k n : Nat} {v : Value} {xs : List Value} (hown : w.ownsRow base e k v n xs) :
    (Builtin.append_ #[t, t] ty #[v, .slice none 0 c]).run P w = .ok v w := by
  rcases hown.2 with ⟨rfl, rfl⟩ | ⟨g, cap, cur, rfl, _, _, hnc, _⟩
  · simp [Builtin.append_, run_underlying ht, sizeOf, typeInfo, hi, Builtin.lenOf, Builtin.firstCells, loadCells, loadCellsFrom]
  · simp [Builtin.append_, run_underlying ht, sizeOf, typeInfo, hi, Builtin.lenOf, Builtin.firstCells, hnc, storeCells, loadCells, loadCellsFrom]

theorem op_append (hT : TabOK P T) (hZ : ZOK P Z) {o : Oper} {t : TypeId} {u x : Operand} (ho : o.op = .call { callee := .builtin .append, args := #[u, x], argTypes := #[t, t] }) (s : Sim X B W0 ⟨ts, H⟩ a w pl) {K : LV → List Blk → Prop}
    (h : appendW T Z H t (ev ts u) (ev ts x) K) : OpRes P o a w X B W0 ts H pl K := by
  have hu := ev_sound s u
  have hx := ev_sound s x
  have eu : ev (St.mk ts H).tmps u = ev ts u := rfl
  have ex : ev (St.mk ts H).tmps x = ev ts x := rfl
  rw [eu] at hu
  rw [ex] at hx
  generalize hU : ev ts u = U at h hu
  generalize hXX : ev ts x = XX at h hx
  unfold appendW at h
  split at h
  rotate_left
  · exact h.elim
  rename_i e sz by' hi
  obtain ⟨d, hd, hd2, _⟩ := (hT _ _ hi).und
  obtain rfl := kind_slice hd2
  split at h
  rotate_left
  · exact h.elim
  rename_i ei hei
  obtain ⟨inf, hinf, hsz, hby⟩ := (hT e ei hei).info
  split at h
  rotate_left
  · exact h.elim
  rename_i z hz
  obtain ⟨inf', zv, i1, i2, i3⟩ := hZ e z hz
  rw [hinf] at i1
  cases i1
  split at h
  rotate_left
  · exact h.elim
  rename_i hb
  simp only [Bool.and_eq_true, Nat.beq_eq, Nat.blt_eq] at hb
  obtain ⟨hzz, hpos⟩ := hb
  have hzs : zv.cells.size = ei.size := by
    obtain ⟨c1, ec, hc⟩ := litIn_RC (ρ := ctx X H pl w) z _ _ i3
    rw [List.append_nil] at ec
    have := RC.len _ _ hc
    rw [← ec, Array.length_toList] at this
    omega
  -- the general step
  have main : ∀ (ys : List LV) (news : List Value), RCs (ctx X H pl w).pure ys news → (∀ y ∈ ys, y.size = ei.size) →
      ((∃ c, a.eval x = .slice none 0 c ∧ ys = []) ∨ ∃ ad c, a.eval x = .slice (some ad) ys.length c ∧ ∀ j q, news[j]? = some q → w.cell? (ad.add j) = some q) →
      appendTo H e ei U ys K → OpRes P o a w X B W0 ts H pl K := by
    intro ys news hn hys hxv hto
    have hnl : news.length = ys.length * ei.size := by rw [RCs.len _ _ hn, sizes_uniform ys hys]
    have h1 : ∀ q ∈ news, q.oneCell' = true := RCs.one (okCells_ctx X H pl w) _ _ (RCs.mono (Ctx.pure_le _) _ _ hn)
    have step : ∀ (v : Value) (n : Nat) (xs : List LV) (es : List Value) (H1 : List Blk), a.eval u = v → w.ownsRow B e ei.size v n es → n = xs.length → RCs (ctx X H pl w).pure xs es → (∀ y ∈ xs, y.size = ei.size) →
        H1.length = H.length → (∀ (i : Nat) (b : Blk), H1[i]? = some b → H[i]? = some b ∨ b = Blk.dead) → (∀ (i : Nat) (b : Blk), H1[i]? = some b → b.live → hasBk (pl i) = true → v.ownBlock ≠ some (bk (pl i))) →
        (∀ g, v.ownBlock = some g → ∃ id blk, H[id]? = some blk ∧ blk.live ∧ hasBk (pl id) = true ∧ bk (pl id) = g) →
        (xs ++ ys).length ≤ maxLen → (xs ++ ys).length * ei.bytes ≤ 140737488355328 → K (.hs H1.length (xs ++ ys).length) (H1 ++ [.arr e ei.size (xs ++ ys)]) → OpRes P o a w X B W0 ts H pl K := by
      intro v n xs es H1 ev1 hown hnx hxs hxk q1 q2 q3 q4 hm hbytes hk
      subst hnx
      have hbase : B ≤ w.heap.size := Nat.le_trans s.good.base s.good.below.size
      have hlen : (xs ++ ys).length = xs.length + ys.length := List.length_append
      have hres : ∃ v' w', (Builtin.append_ #[t, t] o.type #[v, a.eval x]).run P w = .ok v' w' ∧ w'.ownsRow B e ei.size v' (xs.length + ys.length) (es ++ news) ∧ w.grownBy w' v.ownBlock ∧ (v'.ownBlock = v.ownBlock ∨ v'.ownBlock = some w.heap.size) := by
        rcases hxv with ⟨c, hxe, rfl⟩ | ⟨ad, c, hxe, hcell⟩
        · have : news = [] := by simpa [RCs] using hn
          subst this
          refine ⟨v, w, ?_, by simpa using hown, ⟨rfl, rfl, rfl, Nat.le_refl _, fun _ _ _ => rfl⟩, .inl rfl⟩
          rw [hxe]
          exact run_append_none t o.type e inf c hd hinf hown
        · obtain ⟨v', w', r1, r2, r3, _, r5⟩ := run_append_own_at (P := P) w B t o.type e inf zv ei.size ei.bytes hd hinf i2 hsz hby hzs hpos v xs.length es hown ad ys.length c news hnl hcell h1 (by omega) (by rw [← hlen]; exact hbytes) hbase
          exact ⟨v', w', by rw [hxe]; exact r1, r2, r3, r5⟩
      obtain ⟨v', w', r1, r2, r3, r5⟩ := hres
      rw [← hlen] at r2
      obtain ⟨pl', k1, k2, k3⟩ := sim_append s q1 q2 q3 q4 r3 r2 r5 (RCs_join _ _ _ _ hxs hn) (fun y hy => by rcases List.mem_append.1 hy with hy | hy; exact hxk y hy; exact hys y hy) hpos
      have hr : (execOp a.eval o).run P w = .ok (.value v') w' := by
        simp only [execOp, ho, resolve, invoke, builtin, Sem.run_bind, Sem.run_pure, Result.andThen_ok, List.map_toArray, List.map_cons, List.map_nil, ev1, r1]
      unfold OpRes
      rw [hr]
      exact ⟨_, _, pl', hk, k1, k2, k3⟩
    unfold appendTo at hto
    split at hto
    · obtain ⟨g1, g2, g3⟩ := hto
      rw [appK_eq] at g3
      have hv0 : a.eval u = .slice none 0 0 := by simpa [RT, RT1, RC] using hu
      exact step _ 0 [] [] H hv0 (World.ownsRow_nil w B e ei.size) rfl (by simp [RCs]) (by simp) rfl (fun i b h => .inl h) (fun i b _ _ _ h => by simp [Value.ownBlock] at h) (fun g h => by simp [Value.ownBlock] at h) g1 g2 g3
    · rename_i id n
      split at hto
      · rename_i e1 k1 xs hc
        split at hto
        · rename_i hbb
          simp only [Bool.and_eq_true, Nat.beq_eq] at hbb
          obtain ⟨rfl, rfl⟩ := hbb
          obtain ⟨g0, g1, g2, g3⟩ := hto
          rw [setHK_eq, appK_eq] at g3
          simp only [RT, RT1, RC] at hu
          obtain ⟨q, hq1, hq2, _, hq4⟩ := hu
          simp at hq1
          obtain ⟨es, r1, r2, r3, r4⟩ := s.good.ok id _ hc
          have hq : q = pl id := hq4 _ _ _ hc g0
          have hpb : ∀ g, (pl id).ownBlock = some g → hasBk (pl id) = true ∧ bk (pl id) = g := fun g h => bk_own h
          refine step (pl id) xs.length xs es (H.set id .dead) (by rw [hq1, hq]) r1 rfl r2 r3 (by simp) (fun i b h => ?_) (fun i b h lv hp hq => ?_) (fun g h => ?_) g1 g2 (by simpa using g3)
          · rcases set_get h with ⟨_, rfl, _⟩ | ⟨_, h⟩
            · exact .inr rfl
            · exact .inl h
          · rcases set_get h with ⟨_, rfl, _⟩ | ⟨hne, h⟩
            · exact lv.elim
            · obtain ⟨k1, k2⟩ := hpb _ hq
              exact hne (s.good.inj i id b _ h lv hc trivial hp k1 k2.symm)
          · obtain ⟨k1, k2⟩ := hpb _ h
            exact ⟨id, _, hc, trivial, k1, k2⟩
        · exact hto.elim
      · exact hto.elim
    · exact hto.elim
  split at h
  · rename_i ys
    simp only [RT, RT1, RC] at hx
    obtain ⟨a', cap, h1, h2, h3, h4⟩ := hx
    simp at h1
    rcases h4 with rfl | ⟨ad, es, k, rfl, h5, h6, h7, h8, h9⟩
    · cases a' with
      | none => exact main [] [] (by simp [RCs]) (by simp) (.inl ⟨cap, by simpa using h1, rfl⟩) h.2
      | some ad => exact main [] [] (by simp [RCs]) (by simp) (.inr ⟨ad, cap, by simpa using h1, by simp⟩) h.2
    · obtain ⟨b, off, sp⟩ := ad
      have hsp : sp = none := h8.1
      subst hsp
      exact main ys es h7 h.1 (.inr ⟨_, cap, h1, fun j q hq => by rw [add_none]; exact h8.2 j q hq⟩) h.2
  · rename_i j m
    split at h
    · rename_i e2 k2 ys hc
      split at h
      · rename_i hk2
        have hk2 := Nat.eq_of_beq_eq_true hk2
        subst hk2
        obtain ⟨hm, h⟩ := h
        simp only [RT, RT1, RC] at hx
        obtain ⟨q, hq1, hq2, _, hq4⟩ := hx
        simp at hq1
        obtain ⟨es, r1, r2, r3, r4⟩ := s.good.ok j _ hc
        have hq : q = pl j := hq4 _ _ _ hc hm
        rcases r1.2 with ⟨hp, hn⟩ | ⟨g, cap, cur, hp, hg, hcur, hc1, hc2, _⟩
        · have hy : ys = [] := List.eq_nil_of_length_eq_zero hn
          have he : es = [] := by subst hy; simpa [RCs] using r2
          subst hy; subst he
          exact main [] [] (by simp [RCs]) (by simp) (.inl ⟨0, by rw [hq1, hq, hp], rfl⟩) h
        · refine main ys es r2 r3 (.inr ⟨⟨g, 0, none⟩, cap, by rw [hq1, hq, hp], fun i u hu => ?_⟩) h
          have hne : es ≠ [] := fun e => by subst e; simp at hu
          have := (CellsAt_row (w := w) r1 hne).2
          rw [hp] at this
          rw [add_none]
          exact this.2 i u hu
      · exact h.elim
    · exact h.elim
  · exact h.elim

end
end Go.Lg
