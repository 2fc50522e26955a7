/- Blocks that are written, laid and read. -/
import Derived.Test.YtbiagkccgijdlaaGreatALgD
namespace Go.Lg
variable [GI]
set_option linter.unusedSectionVars false
set_option linter.unusedVariables false
set_option linter.unusedSimpArgs false
open Go.RowKit

/-- What a block may turn into when it is written. -/
def relBlk : Blk → Blk → Prop
  | .box c, .box c' => ∀ p o, offP c' p = some o → offP c p = some o
  | .it _ _, .it _ _ => True
  | .bld _ _ _ _, .bld _ _ _ _ => True
  | .mp _ _, .mp _ _ => True
  | .row _ _ _ xs, y => ∃ xs', y.isRow xs' ∧ xs'.length = xs.length ∧ ∀ p o, offP (.st xs') p = some o → offP (.st xs) p = some o
  | .opn _ _ g _ _, y => ∃ xs', y.isRow xs' ∧ xs'.length = (g .nil).length ∧ ∀ p o, offP (.st xs') p = some o → offP (.st (g .nil)) p = some o
  | _, _ => False

theorem relBlk.isRow {x y : Blk} (h : relBlk x y) {ys : List LV} (k : y.isRow ys) : ∃ xs, x.isRow xs ∧ ys.length = xs.length ∧ ∀ p o, offP (.st ys) p = some o → offP (.st xs) p = some o := by
  have uq : ∀ {y : Blk} {a b : List LV}, y.isRow a → y.isRow b → a = b := fun {y a b} h1 h2 => by cases y <;> simp only [Blk.isRow] at h1 h2 <;> first | exact h1.elim | exact h1.symm.trans h2
  cases x with
  | row t e kk xs => obtain ⟨xs', h1, h2, h3⟩ := h; obtain rfl := uq h1 k; exact ⟨xs, rfl, h2, h3⟩
  | opn e kk g j m => obtain ⟨xs', h1, h2, h3⟩ := h; obtain rfl := uq h1 k; exact ⟨_, rfl, h2, h3⟩
  | dead => cases y <;> exact h.elim
  | box c => cases y <;> first | exact h.elim | exact k.elim
  | it q p => cases y <;> first | exact h.elim | exact k.elim
  | bld t e us l => cases y <;> first | exact h.elim | exact k.elim
  | mp mk L => cases y <;> first | exact h.elim | exact k.elim

theorem relBlk.whole {x y : Blk} (h : relBlk x y) (k : y.whole) : x.whole := by
  cases x <;> cases y <;> simp_all [relBlk, Blk.whole, Blk.isRow]
theorem relBlk.live {x y : Blk} (h : relBlk x y) : x.live ∧ y.live := by
  cases x <;> cases y <;> simp_all [relBlk, Blk.live, Blk.isRow]

theorem set_get {H : List Blk} {id j : Nat} {x y : Blk} (h : (H.set id x)[j]? = some y) : (j = id ∧ y = x ∧ id < H.length) ∨ (j ≠ id ∧ H[j]? = some y) := by
  rw [List.getElem?_set] at h
  split at h
  · rename_i e
    subst e
    split at h
    · rename_i hl; cases h; exact .inl ⟨rfl, rfl, hl⟩
    · cases h
  · rename_i e; exact .inr ⟨fun k => e k.symm, h⟩

/-- The blocks' numbers are kept: 'pl' may turn at 'id', where less is owned than was. -/
theorem ctx_set {X : Nat → Prop} {H : List Blk} {pl : Nat → PV} {w w' : World} {id : Nat} {blk blk' : Blk} {u : PV} (h0 : H[id]? = some blk) (hr : relBlk blk blk') (hu : u.v = (pl id).v) (hf : ∀ b ∈ blk'.feet u, b ∈ blk.feet (pl id)) (hb : hasBk (pl id) = true)
    (hw : ∀ b, b ≠ bk (pl id) → w'.heap[b]? = w.heap[b]?) (hz : w'.heap.size = w.heap.size) : (ctx X H pl w).Le (ctx X (H.set id blk') (upd pl id u) w') := by
  have hl := hr.live
  have hv : ∀ i, (upd pl id u i).v = (pl i).v := fun i => by
    by_cases e : i = id
    · subst e; rw [upd_same]; exact hu
    · rw [upd_other _ e]
  refine ⟨Nat.le_of_eq hz.symm, fun b _ ho => ?_, fun b _ ho => ?_, fun i n v h => ?_, fun i n p v h => ?_⟩
  · refine hw b fun e => ho (.inr ⟨id, blk, h0, hl.1, Blk.feet_head (mem_feet.2 ⟨hb, e.symm⟩)⟩)
  · rcases ho with ho | ⟨j, y, h1, h2, h3⟩
    · exact .inl ho
    rcases set_get h1 with ⟨rfl, rfl, _⟩ | ⟨hne, h5⟩
    · rw [upd_same] at h3; exact .inr ⟨j, blk, h0, hl.1, hf b h3⟩
    · rw [upd_other _ hne] at h3; exact .inr ⟨j, y, h5, h2, h3⟩
  · obtain ⟨h1, h2, h3⟩ := h
    refine ⟨by simpa using h1, h2, fun b xs hx hxr hn => ?_⟩
    rw [hv]
    rcases set_get hx with ⟨rfl, rfl, _⟩ | ⟨_, h5⟩
    · obtain ⟨ys, k1, k2, _⟩ := hr.isRow hxr
      exact h3 _ _ h0 k1 (by omega)
    · exact h3 _ _ h5 hxr hn
  · obtain ⟨h1, h2, h3, h4, h5⟩ := h
    refine ⟨by simpa using h1, h2, ?_, ?_, ?_⟩
    · intro c o hx ho
      rw [hv]
      rcases set_get hx with ⟨rfl, rfl, _⟩ | ⟨_, h6⟩
      · cases blk <;> simp only [relBlk, Blk.isRow, false_and, exists_false] at hr
        exact h3 _ o h0 (hr _ _ ho)
      · exact h3 _ o h6 ho
    · intro b xs o hx hxr hn ho
      rw [hv]
      rcases set_get hx with ⟨rfl, rfl, _⟩ | ⟨_, h6⟩
      · obtain ⟨ys, k1, k2, k3⟩ := hr.isRow hxr
        exact h4 _ _ o h0 k1 (by omega) (k3 _ _ ho)
      · exact h4 _ _ o h6 hxr hn ho
    · intro s hx q
      rw [hv]
      rcases set_get hx with ⟨rfl, rfl, _⟩ | ⟨_, h6⟩
      · exact h5 _ h0 (hr.whole q)
      · exact h5 _ h6 q

theorem Good.set {X : Nat → Prop} {B : Nat} {W0 : Orig} {H : List Blk} {pl : Nat → PV} {w w' : World} (g : Good X B W0 H pl w) {id : Nat} {blk blk' : Blk} {u : PV} (h0 : H[id]? = some blk) (hr : relBlk blk blk')
    (hu : u.v = (pl id).v) (hf : ∀ b ∈ blk'.feet u, b ∈ blk.feet (pl id)) (hnd : (blk'.feet u).Nodup)
    (hb : hasBk (pl id) = true) (hw : ∀ b, b ≠ bk (pl id) → w'.heap[b]? = w.heap[b]?) (hz : w'.heap.size = w.heap.size) (ho : w'.os = w.os) (ht : w'.tape = w.tape) (hout : w'.output = w.output)
    (hk : BlkOK B (ctx X (H.set id blk') (upd pl id u) w') u blk') (hinc : w.drawn ≤ w'.drawn := by exact Nat.le_refl _) : Good X B W0 (H.set id blk') (upd pl id u) w' := by
  have hl := ctx_set (X := X) (w := w) (w' := w') h0 hr hu hf hb hw hz
  have lv := hr.live
  have hlt := (g.ok id blk h0).hasBk_lt lv.1 hb
  have hd : bk (pl id) ∈ blk.feet (pl id) := Blk.feet_head (mem_feet.2 ⟨hb, rfl⟩)
  have live : ∀ {i : Nat} {bi : Blk} {b : Nat}, (H.set id blk')[i]? = some bi → bi.live → b ∈ bi.feet (upd pl id u i) → ∃ b0 : Blk, H[i]? = some b0 ∧ b0.live ∧ b ∈ b0.feet (pl i) := by
    intro i bi b hi li hm
    rcases set_get hi with ⟨rfl, rfl, _⟩ | ⟨hne, h5⟩
    · rw [upd_same] at hm; exact ⟨blk, h0, lv.1, hf b hm⟩
    · rw [upd_other _ hne] at hm; exact ⟨bi, h5, li, hm⟩
  refine ⟨g.below.trans ⟨ho, ht, hout, Nat.le_of_eq hz.symm, fun k hk' => hw k (by omega), hinc⟩, g.base, fun j y hj => ?_, fun i j bi bj b hi li hj lj ai aj => ?_, fun i bi hi li => ?_, g.xlt,
    fun b h => (hw b fun e => g.apart id blk _ h0 lv.1 hd (e ▸ h)).trans (g.keepX b h), fun i bi b hi li hv => ?_⟩
  · rcases set_get hj with ⟨rfl, rfl, _⟩ | ⟨hne, h5⟩
    · rw [upd_same]; exact hk
    · rw [upd_other _ hne]
      have hk0 := g.ok j y h5
      by_cases ly : y.live
      · refine hk0.mono hl fun b hv => hw _ fun e => hne (g.inj j id y blk b h5 ly h0 lv.1 hv (e ▸ hd))
      · cases y <;> first | trivial | exact absurd trivial ly
  · obtain ⟨b1, h1, l1, m1⟩ := live hi li ai
    obtain ⟨b2, h2, l2, m2⟩ := live hj lj aj
    exact g.inj i j b1 b2 b h1 l1 h2 l2 m1 m2
  · rcases set_get hi with ⟨rfl, rfl, _⟩ | ⟨hne, h5⟩
    · rw [upd_same]; exact hnd
    · rw [upd_other _ hne]; exact g.nd i bi h5 li
  · obtain ⟨b1, h1, l1, m1⟩ := live hi li hv
    exact g.apart i b1 b h1 l1 m1

theorem Sim.setBlk {X : Nat → Prop} {B : Nat} {W0 : Orig} {ts : List LV} {H : List Blk} {a : Act} {pl : Nat → PV} {w w' : World} (s : Sim X B W0 ⟨ts, H⟩ a w pl) {id : Nat} {blk blk' : Blk} {u : PV} (h0 : H[id]? = some blk) (hr : relBlk blk blk')
    (hu : u.v = (pl id).v) (hf : ∀ b ∈ blk'.feet u, b ∈ blk.feet (pl id)) (hnd : (blk'.feet u).Nodup)
    (hb : hasBk (pl id) = true) (hw : ∀ b, b ≠ bk (pl id) → w'.heap[b]? = w.heap[b]?) (hz : w'.heap.size = w.heap.size) (ho : w'.os = w.os) (ht : w'.tape = w.tape) (hout : w'.output = w.output)
    (hk : BlkOK B (ctx X (H.set id blk') (upd pl id u) w') u blk') (hinc : w.drawn ≤ w'.drawn := by exact Nat.le_refl _) : Sim X B W0 ⟨ts, H.set id blk'⟩ a w' (upd pl id u) :=
  ⟨s.good.set h0 hr hu hf hnd hb hw hz ho ht hout hk hinc, s.defers, s.size, fun t x hx => RT.mono (ctx_set h0 hr hu hf hb hw hz) _ _ (s.tmps t x hx), s.le.trans (ctx_set h0 hr hu hf hb hw hz)⟩

theorem upd_id (pl : Nat → PV) (id : Nat) : upd pl id (pl id) = pl := by funext i; unfold upd; split <;> simp_all

/-- Some blocks turn or are laid, others may die: all that was read before reads so still. -/
theorem Good.many {X : Nat → Prop} {B : Nat} {W0 : Orig} {H : List Blk} {pl : Nat → PV} {w w' : World} (g : Good X B W0 H pl w) {H' : List Blk} {pl' : Nat → PV} (S : Nat → Prop)
    (hlen : H.length ≤ H'.length) (hold : ∀ (i : Nat) (b : Blk), H'[i]? = some b → ¬ S i → b.live → H[i]? = some b) (hpl : ∀ i, ¬ S i → pl' i = pl i)
    (hrel : ∀ (i : Nat) (b : Blk), H'[i]? = some b → S i → H.length ≤ i ∨ ∃ blk : Blk, H[i]? = some blk ∧ relBlk blk b ∧ (pl' i).v = (pl i).v)
    (hfeet : ∀ (i : Nat) (b : Blk), H'[i]? = some b → S i → ∀ c ∈ b.feet (pl' i), w.heap.size ≤ c ∨ ∃ (j : Nat) (bj : Blk), H[j]? = some bj ∧ bj.live ∧ c ∈ bj.feet (pl j))
    (hdis : ∀ (i j : Nat) (b d : Blk) (c : Nat), H'[i]? = some b → H'[j]? = some d → i ≠ j → S j → b.live → c ∈ b.feet (pl' i) → c ∉ d.feet (pl' j)) (hnd : ∀ (i : Nat) (b : Blk), H'[i]? = some b → S i → (b.feet (pl' i)).Nodup)
    (hsize : w.heap.size ≤ w'.heap.size) (ho : w'.os = w.os) (ht : w'.tape = w.tape) (hu : w'.output = w.output)
    (hmem : ∀ c, c < w.heap.size → w'.heap[c]? = w.heap[c]? ∨ ∃ (j : Nat) (bj : Blk), H[j]? = some bj ∧ bj.live ∧ c ∈ bj.feet (pl j) ∧ (S j ∨ ∀ b, H'[j]? = some b → ¬ b.live))
    (hk : (ctx X H pl w).Le (ctx X H' pl' w') → ∀ (i : Nat) (b : Blk), H'[i]? = some b → S i → BlkOK B (ctx X H' pl' w') (pl' i) b) (hinc : w.drawn ≤ w'.drawn := by exact Nat.le_refl _) : Good X B W0 H' pl' w' ∧ (ctx X H pl w).Le (ctx X H' pl' w') := by
  classical
  have own : ∀ (i : Nat) (b : Blk) (c : Nat), H'[i]? = some b → b.live → c ∈ b.feet (pl' i) → w.heap.size ≤ c ∨ ∃ (j : Nat) (bj : Blk), H[j]? = some bj ∧ bj.live ∧ c ∈ bj.feet (pl j) := by
    intro i b c hi li hc
    by_cases e : S i
    · exact hfeet i b hi e c hc
    · rw [hpl i e] at hc; exact .inr ⟨i, b, hold i b hi e li, li, hc⟩
  have hle : (ctx X H pl w).Le (ctx X H' pl' w') := by
    refine ⟨hsize, fun b hb hnb => ?_, fun b hb hob => ?_, fun i n v h => ?_, fun i n p v h => ?_⟩
    · rcases hmem b hb with h | ⟨j, bj, h1, h2, h3, _⟩
      · exact h
      · exact absurd (.inr ⟨j, bj, h1, h2, h3⟩) hnb
    · rcases hob with h | ⟨i, bi, h1, h2, h3⟩
      · exact .inl h
      · rcases own i bi b h1 h2 h3 with h | ⟨j, bj, h4, h5, h6⟩
        · exact absurd hb (Nat.not_lt.2 h)
        · exact .inr ⟨j, bj, h4, h5, h6⟩
    · obtain ⟨h1, h2, h3⟩ := h
      refine ⟨Nat.lt_of_lt_of_le h1 hlen, h2, fun b xs hx hr hn => ?_⟩
      by_cases e : S i
      · rcases hrel i b hx e with h | ⟨blk, k1, k2, k3⟩
        · exact absurd h1 (Nat.not_lt.2 h)
        · obtain ⟨ys, m1, m2, _⟩ := k2.isRow hr
          rw [k3]; exact h3 _ _ k1 m1 (by omega)
      · have lv : b.live := by cases b <;> first | trivial | exact hr.elim
        rw [hpl i e]; exact h3 _ _ (hold i b hx e lv) hr hn
    · obtain ⟨h1, h2, h3, h4, h5⟩ := h
      refine ⟨Nat.lt_of_lt_of_le h1 hlen, h2, ?_, ?_, ?_⟩
      · intro c o hx hoff
        by_cases e : S i
        · rcases hrel i _ hx e with h | ⟨blk, k1, k2, k3⟩
          · exact absurd h1 (Nat.not_lt.2 h)
          · rw [k3]
            cases blk <;> simp only [relBlk, Blk.isRow, false_and, exists_false] at k2
            exact h3 _ o k1 (k2 _ _ hoff)
        · rw [hpl i e]; exact h3 _ o (hold i _ hx e trivial) hoff
      · intro b xs o hx hr hn hoff
        by_cases e : S i
        · rcases hrel i b hx e with h | ⟨blk, k1, k2, k3⟩
          · exact absurd h1 (Nat.not_lt.2 h)
          · obtain ⟨ys, m1, m2, m3⟩ := k2.isRow hr
            rw [k3]; exact h4 _ _ o k1 m1 (by omega) (m3 _ _ hoff)
        · have lv : b.live := by cases b <;> first | trivial | exact hr.elim
          rw [hpl i e]; exact h4 _ _ o (hold i b hx e lv) hr hn hoff
      · intro s hx q
        by_cases e : S i
        · rcases hrel i _ hx e with h | ⟨blk, k1, k2, k3⟩
          · exact absurd h1 (Nat.not_lt.2 h)
          · rw [k3]
            exact h5 _ k1 (k2.whole q)
        · have lv : s.live := by cases s <;> first | trivial | exact q.elim
          rw [hpl i e]; exact h5 _ (hold i _ hx e lv) q
  refine ⟨⟨g.below.trans ⟨ho, ht, hu, hsize, fun c hc => ?_, hinc⟩, g.base, fun i b hi => ?_, fun i j bi bj b hi li hj lj ai aj => ?_, fun i b hi li => ?_, g.xlt, fun b hb => ?_, fun i b c hi li hc hX => ?_⟩, hle⟩
  · rcases hmem c (Nat.lt_of_lt_of_le hc g.base'.1) with h | ⟨j, bj, h1, h2, h3, _⟩
    · exact h
    · have := ((g.ok j bj h1).feet_lt h2 h3).1; omega
  · by_cases e : S i
    · exact hk hle i b hi e
    · by_cases li : b.live
      · have h0 := hold i b hi e li
        rw [hpl i e]
        refine (g.ok i b h0).mono hle fun c hc => ?_
        rcases hmem c ((g.ok i b h0).feet_lt li hc).2 with h | ⟨j, bj, h1, h2, h3, h4⟩
        · exact h
        · obtain rfl := g.inj i j b bj c h0 li h1 h2 hc h3
          rcases h4 with h4 | h4
          · exact absurd h4 e
          · exact absurd li (h4 b hi)
      · cases b <;> first | trivial | exact absurd trivial li
  · by_cases e : i = j
    · exact e
    · by_cases ei : S i
      · exact absurd ai (hdis j i bj bi b hj hi (Ne.symm e) ei lj aj)
      · by_cases ej : S j
        · exact absurd aj (hdis i j bi bj b hi hj e ej li ai)
        · rw [hpl i ei] at ai
          rw [hpl j ej] at aj
          exact g.inj i j bi bj b (hold i bi hi ei li) li (hold j bj hj ej lj) lj ai aj
  · by_cases e : S i
    · exact hnd i b hi e
    · rw [hpl i e]; exact g.nd i b (hold i b hi e li) li
  · rcases hmem b (Nat.lt_of_lt_of_le (g.xlt b hb) g.below.size) with h | ⟨j, bj, h1, h2, h3, _⟩
    · exact h.trans (g.keepX b hb)
    · exact absurd hb (g.apart j bj b h1 h2 h3)
  · rcases own i b c hi li hc with h | ⟨j, bj, h1, h2, h3⟩
    · have := g.xlt c hX; have := g.below.size; omega
    · exact g.apart j bj c h1 h2 h3 hX

/-- One block turns or is laid, others may die. -/
theorem Good.one {X : Nat → Prop} {B : Nat} {W0 : Orig} {H : List Blk} {pl : Nat → PV} {w w' : World} (g : Good X B W0 H pl w) {H' : List Blk} {pl' : Nat → PV} {id : Nat} {nb : Blk}
    (hlen : H.length ≤ H'.length) (hid : H'[id]? = some nb) (hold : ∀ (i : Nat) (b : Blk), H'[i]? = some b → i ≠ id → b.live → H[i]? = some b) (hpl : ∀ i, i ≠ id → pl' i = pl i)
    (hrel : H.length ≤ id ∨ ∃ blk : Blk, H[id]? = some blk ∧ relBlk blk nb ∧ (pl' id).v = (pl id).v)
    (hfeet : ∀ c ∈ nb.feet (pl' id), w.heap.size ≤ c ∨ ∃ (j : Nat) (bj : Blk), H[j]? = some bj ∧ bj.live ∧ c ∈ bj.feet (pl j))
    (hdis : ∀ (i : Nat) (b : Blk) (c : Nat), H'[i]? = some b → i ≠ id → b.live → c ∈ b.feet (pl i) → c ∉ nb.feet (pl' id)) (hnd : (nb.feet (pl' id)).Nodup)
    (hsize : w.heap.size ≤ w'.heap.size) (ho : w'.os = w.os) (ht : w'.tape = w.tape) (hu : w'.output = w.output)
    (hmem : ∀ c, c < w.heap.size → w'.heap[c]? = w.heap[c]? ∨ ∃ (j : Nat) (bj : Blk), H[j]? = some bj ∧ bj.live ∧ c ∈ bj.feet (pl j) ∧ (j = id ∨ ∀ b, H'[j]? = some b → ¬ b.live))
    (hk : (ctx X H pl w).Le (ctx X H' pl' w') → BlkOK B (ctx X H' pl' w') (pl' id) nb) (hinc : w.drawn ≤ w'.drawn := by exact Nat.le_refl _) : Good X B W0 H' pl' w' ∧ (ctx X H pl w).Le (ctx X H' pl' w') := by
  refine g.many (fun i => i = id) hlen hold hpl (fun i b hi e => ?_) (fun i b hi e => ?_) (fun i j b d c hi hj hne e lv hc => ?_) (fun i b hi e => ?_) hsize ho ht hu hmem (fun hle i b hi e => ?_) hinc
  · subst e; rw [hid] at hi; cases hi; exact hrel
  · subst e; rw [hid] at hi; cases hi; exact hfeet
  · subst e; rw [hid] at hj; cases hj; rw [hpl i hne] at hc; exact hdis i b c hi hne lv hc
  · subst e; rw [hid] at hi; cases hi; exact hnd
  · subst e; rw [hid] at hi; cases hi; exact hk hle

/-! ### Reading a block -/

theorem CellsAt_cells {w : World} {b : Nat} {cur : Array Value} {ty : TypeId} {fr : Nat × Nat} (h : w.heap[b]? = some (.cells cur ty fr)) {es : List Value} (he : ∀ (j : Nat) (v : Value), es[j]? = some v → cur[j]? = some v) : CellsAt w ⟨b, 0, none⟩ es :=
  ⟨rfl, fun j v hv => by simp [World.cell?, h, he j v hv]⟩

theorem CellsAt_row {w : World} {B e k n : Nat} {v : Value} {es : List Value} (h : w.ownsRow B e k v n es) (hne : es ≠ []) : hasBk v = true ∧ CellsAt w ⟨bk v, 0, none⟩ es := by
  obtain ⟨h1, h2⟩ := h
  rcases h2 with ⟨rfl, rfl⟩ | ⟨g, cap, cur, rfl, _, h4, _, _, _, h8⟩
  · simp at h1; exact absurd h1 hne
  · refine ⟨rfl, CellsAt_cells (cur := cur) h4 fun j u hu => ?_⟩
    rw [← h8, List.getElem?_take] at hu
    split at hu
    · simpa using hu
    · cases hu

theorem offP_ex : ∀ (p : List Nat) (c x : LV), getP c p = some x → ∃ o, offP c p = some o
  | [], c, x, _ => ⟨0, by cases c <;> rfl⟩
  | f :: p, c, x, h => by
    cases c <;> simp only [getP] at h <;> try cases h
    rename_i fs
    cases hf : fs[f]? with
    | none => rw [hf] at h; cases h
    | some y =>
      rw [hf] at h
      obtain ⟨o, ho⟩ := offP_ex p y x h
      exact ⟨LV.sizes (fs.take f) + o, by simp only [offP, hf, ho, Option.map_some]⟩

mutual
/-- Owns nothing. -/
def noOwn : LV → Bool
  | .own _ _ _ | .undef | .tup _ | .hs _ _ | .hp _ _ _ => false
  | .st fs => noOwns fs
  | _ => true
def noOwns : List LV → Bool
  | [] => true
  | x :: xs => match noOwn x with | true => noOwns xs | false => false
end

mutual
theorem RRc.noOwn {w : World} {O : Nat → Prop} {B : Nat} : ∀ (x : LV) (cs : List Value) (bs : List Nat), Go.Lg.noOwn x = true → RRc w O B x cs bs → RC (pctx O w) x cs ∧ bs = []
  | .st fs, cs, bs, h, k => by simp only [Go.Lg.noOwn] at h; simp only [RRc] at k; rw [RC_st]; exact RRcs.noOwns fs cs bs h k
  | .own _ _ _, _, _, h, _ => by simp [Go.Lg.noOwn] at h
  | .undef, _, _, h, _ => by simp [Go.Lg.noOwn] at h
  | .tup _, _, _, h, _ => by simp [Go.Lg.noOwn] at h
  | .hs _ _, _, _, h, _ => by simp [Go.Lg.noOwn] at h
  | .hp _ _ _, _, _, h, _ => by simp [Go.Lg.noOwn] at h
  | .int k n, _, _, _, k' => by simp only [RRc] at k'; exact k'
  | .bool b, _, _, _, k' => by simp only [RRc] at k'; exact k'
  | .lit b, _, _, _, k' => by simp only [RRc] at k'; exact k'
  | .str s, _, _, _, k' => by simp only [RRc] at k'; exact k'
  | .nil, _, _, _, k' => by simp only [RRc] at k'; exact k'
  | .sl xs, _, _, _, k' => by simp only [RRc] at k'; exact k'
  | .ref c, _, _, _, k' => by simp only [RRc] at k'; exact k'
  | .clos f c, _, _, _, k' => by simp only [RRc] at k'; exact k'
  | .ifc f c, _, _, _, k' => by simp only [RRc] at k'; exact k'
theorem RRcs.noOwns {w : World} {O : Nat → Prop} {B : Nat} : ∀ (xs : List LV) (cs : List Value) (bs : List Nat), Go.Lg.noOwns xs = true → RRcs w O B xs cs bs → RCs (pctx O w) xs cs ∧ bs = []
  | [], cs, bs, _, k => by simp only [RRcs] at k; simp only [RCs]; exact k
  | x :: xs, cs, bs, h, k => by
    simp only [Go.Lg.noOwns] at h
    split at h
    · rename_i hx
      simp only [RRcs] at k
      obtain ⟨c1, c2, b1, b2, rfl, rfl, k1, k2⟩ := k
      obtain ⟨m1, rfl⟩ := RRc.noOwn x c1 b1 hx k1
      obtain ⟨m2, rfl⟩ := RRcs.noOwns xs c2 b2 h k2
      simp only [RCs]
      exact ⟨⟨c1, c2, rfl, m1, m2⟩, rfl⟩
    · cases h
end

mutual
/-- What is plain owns nothing. -/
theorem RRc_of {w : World} {O : Nat → Prop} {B : Nat} : ∀ (x : LV) (cs : List Value), RC (pctx O w) x cs → RRc w O B x cs []
  | .st fs, cs, h => by rw [RC_st] at h; simp only [RRc]; exact RRcs_of fs cs h
  | .own _ _ _, _, h => by simp [RC] at h
  | .undef, _, h => by unfold RRc; exact ⟨h, rfl⟩
  | .tup _, _, h => by simp [RC] at h
  | .hs _ _, _, h => by simp [RC, pctx] at h
  | .hp _ _ _, _, h => by simp [RC, pctx] at h
  | .int k n, _, h => by unfold RRc; exact ⟨h, rfl⟩
  | .bool b, _, h => by unfold RRc; exact ⟨h, rfl⟩
  | .lit b, _, h => by unfold RRc; exact ⟨h, rfl⟩
  | .str s, _, h => by unfold RRc; exact ⟨h, rfl⟩
  | .nil, _, h => by unfold RRc; exact ⟨h, rfl⟩
  | .sl xs, _, h => by unfold RRc; exact ⟨h, rfl⟩
  | .ref c, _, h => by unfold RRc; exact ⟨h, rfl⟩
  | .clos f c, _, h => by unfold RRc; exact ⟨h, rfl⟩
  | .ifc f c, _, h => by unfold RRc; exact ⟨h, rfl⟩
theorem RRcs_of {w : World} {O : Nat → Prop} {B : Nat} : ∀ (fs : List LV) (cs : List Value), RCs (pctx O w) fs cs → RRcs w O B fs cs []
  | [], cs, h => by simp only [RCs] at h; unfold RRcs; exact ⟨h, rfl⟩
  | y :: ys, cs, h => by
    simp only [RCs] at h
    obtain ⟨c1, c2, rfl, h1, h2⟩ := h
    simp only [RRcs]
    exact ⟨c1, c2, [], [], rfl, rfl, RRc_of y c1 h1, RRcs_of ys c2 h2⟩
end

mutual
theorem RRc.len {w : World} {O : Nat → Prop} {B : Nat} : ∀ (x : LV) (cs : List Value) (bs : List Nat), RRc w O B x cs bs → cs.length = x.size
  | .st fs, cs, bs, h => by simp only [RRc] at h; simp only [LV.size]; exact RRcs.len fs cs bs h
  | .own _ _ _, _, _, h => by simp only [RRc] at h; obtain ⟨v, es, rfl, _⟩ := h; rfl
  | .undef, _, _, h => by simp only [RRc] at h; exact RC.len _ _ h.1
  | .tup _, _, _, h => by simp [RRc] at h
  | .hs _ _, _, _, h => by simp [RRc] at h
  | .hp _ _ _, _, _, h => by simp [RRc] at h
  | .int k n, _, _, h => by simp only [RRc] at h; exact RC.len _ _ h.1
  | .bool b, _, _, h => by simp only [RRc] at h; exact RC.len _ _ h.1
  | .lit b, _, _, h => by simp only [RRc] at h; exact RC.len _ _ h.1
  | .str s, _, _, h => by simp only [RRc] at h; exact RC.len _ _ h.1
  | .nil, _, _, h => by simp only [RRc] at h; exact RC.len _ _ h.1
  | .sl xs, _, _, h => by simp only [RRc] at h; exact RC.len _ _ h.1
  | .ref c, _, _, h => by simp only [RRc] at h; exact RC.len _ _ h.1
  | .clos f c, _, _, h => by simp only [RRc] at h; exact RC.len _ _ h.1
  | .ifc f c, _, _, h => by simp only [RRc] at h; exact RC.len _ _ h.1
theorem RRcs.len {w : World} {O : Nat → Prop} {B : Nat} : ∀ (fs : List LV) (cs : List Value) (bs : List Nat), RRcs w O B fs cs bs → cs.length = LV.sizes fs
  | [], cs, bs, h => by simp only [RRcs] at h; rw [h.1]; rfl
  | y :: ys, cs, bs, h => by
    simp only [RRcs] at h
    obtain ⟨c1, c2, b1, b2, rfl, _, h1, h2⟩ := h
    simp only [List.length_append, LV.sizes, RRc.len y c1 b1 h1, RRcs.len ys c2 b2 h2]
end

theorem RRcs.split {w : World} {O : Nat → Prop} {B : Nat} : ∀ (xs ys : List LV) (c : List Value) (bs : List Nat), RRcs w O B (xs ++ ys) c bs → ∃ c1 c2 b1 b2, c = c1 ++ c2 ∧ bs = b1 ++ b2 ∧ RRcs w O B xs c1 b1 ∧ RRcs w O B ys c2 b2
  | [], ys, c, bs, h => ⟨[], c, [], bs, rfl, rfl, by unfold RRcs; exact ⟨rfl, rfl⟩, h⟩
  | x :: xs, ys, c, bs, h => by
    simp only [List.cons_append, RRcs] at h
    obtain ⟨a1, a2, b1, b2, rfl, rfl, h1, h2⟩ := h
    obtain ⟨d1, d2, e1, e2, rfl, rfl, h3, h4⟩ := RRcs.split xs ys a2 b2 h2
    refine ⟨a1 ++ d1, d2, b1 ++ e1, e2, by simp, by simp, ?_, h4⟩
    simp only [RRcs]
    exact ⟨a1, d1, b1, e1, rfl, rfl, h1, h3⟩
theorem RRcs.append {w : World} {O : Nat → Prop} {B : Nat} : ∀ (xs ys : List LV) (c d : List Value) (b1 b2 : List Nat), RRcs w O B xs c b1 → RRcs w O B ys d b2 → RRcs w O B (xs ++ ys) (c ++ d) (b1 ++ b2)
  | [], ys, c, d, b1, b2, h, k => by simp only [RRcs] at h; obtain ⟨rfl, rfl⟩ := h; exact k
  | x :: xs, ys, c, d, b1, b2, h, k => by
    simp only [RRcs] at h
    obtain ⟨c1, c2, e1, e2, rfl, rfl, h1, h2⟩ := h
    simp only [List.cons_append, RRcs]
    exact ⟨c1, c2 ++ d, e1, e2 ++ b2, by simp, by simp, h1, RRcs.append xs ys c2 d e2 b2 h2 k⟩

/-- A place in a tree, and what is laid there instead. -/
theorem RRc_place {w : World} {O : Nat → Prop} {B : Nat} : ∀ (p : List Nat) (c x : LV) (es : List Value) (bs : List Nat), RRc w O B c es bs → getP c p = some x →
    ∃ pre d post b1 bx b2, es = pre ++ d ++ post ∧ bs = b1 ++ bx ++ b2 ∧ offP c p = some pre.length ∧ RRc w O B x d bx ∧
      ∀ y d' by', RRc w O B y d' by' → RRc w O B (setP c p y) (pre ++ d' ++ post) (b1 ++ by' ++ b2)
  | [], c, x, es, bs, h, hg => by
    have e : c = x := by cases c <;> simpa [getP] using hg
    subst e
    refine ⟨[], es, [], [], bs, [], by simp, by simp, by cases c <;> rfl, h, fun y d' by' k => ?_⟩
    have : setP c [] y = y := by cases c <;> rfl
    rw [this]
    simpa using k
  | f :: p, c, x, es, bs, h, hg => by
    cases c <;> simp only [getP] at hg <;> try cases hg
    rename_i fs
    cases hf : fs[f]? with
    | none => rw [hf] at hg; cases hg
    | some z =>
      rw [hf] at hg
      simp only [RRc] at h
      have hlt : f < fs.length := lt_of_get hf
      have hz : fs[f] = z := by simpa [List.getElem?_eq_getElem hlt] using hf
      have e : fs = fs.take f ++ (z :: fs.drop (f + 1)) := by rw [← hz, List.getElem_cons_drop, List.take_append_drop]
      rw [e] at h
      obtain ⟨c1, c2, b1, b2, rfl, rfl, h1, h2⟩ := RRcs.split _ _ _ _ h
      simp only [RRcs] at h2
      obtain ⟨d, c3, bd, b3, rfl, rfl, h3, h4⟩ := h2
      obtain ⟨pre, d', post, q1, qx, q2, rfl, rfl, h5, h6, h7⟩ := RRc_place p z x d bd h3 hg
      refine ⟨c1 ++ pre, d', post ++ c3, b1 ++ q1, qx, q2 ++ b3, by simp, by simp, ?_, h6, fun y d'' by' k => ?_⟩
      · simp only [offP, hf, h5, Option.map_some, List.length_append, RRcs.len _ _ _ h1]
      · have k' := h7 y d'' by' k
        have es' : setP (.st fs) (f :: p) y = .st (fs.set f (setP z p y)) := by simp only [setP, hf]
        have hset : fs.set f (setP z p y) = fs.take f ++ (setP z p y :: fs.drop (f + 1)) := by rw [List.set_eq_take_append_cons_drop, if_pos hlt]
        rw [es', hset]
        simp only [RRc]
        have := RRcs.append (w := w) (O := O) (B := B) _ (setP z p y :: fs.drop (f + 1)) c1 ((pre ++ d'' ++ post) ++ c3) b1 ((q1 ++ by' ++ q2) ++ b3) h1 (by
          simp only [RRcs]; exact ⟨_, _, _, _, rfl, rfl, k', h4⟩)
        simpa using this

/-- What a handle's place reads. -/
theorem load_placeG {X : Nat → Prop} {B : Nat} {W0 : Orig} {H : List Blk} {pl : Nat → PV} {w : World} (g : Good X B W0 H pl w) {id n : Nat} {path : List Nat} {v : Value}
    (hv : hpOK H pl id n path v) {x : LV} (hx : (∃ c, H[id]? = some (.box c) ∧ getP c path = some x) ∨ (∃ e k xs, H[id]? = some (.arr e k xs) ∧ n = xs.length ∧ path ≠ [] ∧ getP (.st xs) path = some x) ∨
      (∃ e k xs, H[id]? = some (.tree e k xs) ∧ n = xs.length ∧ path ≠ [] ∧ getP (.st xs) path = some x ∧ noOwn x = true)) :
    ∃ o es, v = .pointer (some ⟨bk (pl id), o, none⟩) ∧ CellsAt w ⟨bk (pl id), o, none⟩ es ∧ RC (ctx X H pl w) x es := by
  obtain ⟨h1, h2, h3, h4, _⟩ := hv
  rcases hx with ⟨c, h0, hg⟩ | ⟨e, k, xs, h0, hn, hne, hg⟩ | ⟨e, k, xs, h0, hn, hne, hg, ho⟩
  · obtain ⟨b, es, ty, e1, e2, e3, e4⟩ := g.ok id _ h0
    obtain ⟨pre, d, post, rfl, h5, h6⟩ := getP_off path c x es e4 hg
    have hc : CellsAt w ⟨b, 0, none⟩ (pre ++ d ++ post) := CellsAt_cells (w := w) e3 (fun j u hu => by simpa using hu)
    refine ⟨pre.length, d, h3 c _ h0 h5, ?_, h6⟩
    rw [e1]
    simpa [bk] using hc.mid
  · obtain ⟨es, e1, e2, e3, e4⟩ := g.ok id _ h0
    have e2' : RC (ctx X H pl w).pure (.st xs) es := RC_st.2 e2
    obtain ⟨pre, d, post, rfl, h5, h6⟩ := getP_off path (.st xs) x es e2' hg
    by_cases he : pre ++ d ++ post = []
    · -- no cells at all: then nothing is read there
      simp at he
      obtain ⟨rfl, rfl, rfl⟩ := he
      refine ⟨0, [], by simpa using h4 _ xs _ h0 rfl hn h5, ⟨rfl, fun j u hu => by simp at hu⟩, RC.mono (Ctx.pure_le _) _ _ h6⟩
    · obtain ⟨_, hc⟩ := CellsAt_row (w := w) e1 he
      exact ⟨pre.length, d, h4 _ xs _ h0 rfl hn h5, by simpa using hc.mid, RC.mono (Ctx.pure_le _) _ _ h6⟩
  · obtain ⟨es, e1, e2, e3, e4⟩ := g.ok id _ h0
    have e2' : RRc w (owned X H pl) B (.st xs) es (pl id).fp := by simp only [RRc]; exact e2
    obtain ⟨pre, d, post, _, _, _, rfl, _, h5, h6, _⟩ := RRc_place path (.st xs) x es _ e2' hg
    have h6 : RC (ctx X H pl w).pure x d := (RRc.noOwn _ _ _ ho h6).1
    by_cases he : pre ++ d ++ post = []
    · simp at he
      obtain ⟨rfl, rfl, rfl⟩ := he
      refine ⟨0, [], by simpa using h4 _ xs _ h0 rfl hn h5, ⟨rfl, fun j u hu => by simp at hu⟩, RC.mono (Ctx.pure_le _) _ _ h6⟩
    · obtain ⟨_, hc⟩ := CellsAt_row (w := w) e1 he
      exact ⟨pre.length, d, h4 _ xs _ h0 rfl hn h5, by simpa using hc.mid, RC.mono (Ctx.pure_le _) _ _ h6⟩

theorem load_place {X : Nat → Prop} {B : Nat} {W0 : Orig} {ts : List LV} {H : List Blk} {a : Act} {pl : Nat → PV} {w : World} (s : Sim X B W0 ⟨ts, H⟩ a w pl) {id n : Nat} {path : List Nat} {v : Value}
    (hv : hpOK H pl id n path v) {x : LV} (hx : (∃ c, H[id]? = some (.box c) ∧ getP c path = some x) ∨ (∃ e k xs, H[id]? = some (.arr e k xs) ∧ n = xs.length ∧ path ≠ [] ∧ getP (.st xs) path = some x) ∨
      (∃ e k xs, H[id]? = some (.tree e k xs) ∧ n = xs.length ∧ path ≠ [] ∧ getP (.st xs) path = some x ∧ noOwn x = true)) :
    ∃ o es, v = .pointer (some ⟨bk (pl id), o, none⟩) ∧ CellsAt w ⟨bk (pl id), o, none⟩ es ∧ RC (ctx X H pl w) x es := load_placeG s.good hv hx

end Go.Lg

