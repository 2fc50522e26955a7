/- Blocks that are written, laid and read. -/
import Derived.Test.YtikbpfcehgmmnaaBLgD
namespace Go.Lg
set_option linter.unusedVariables false
set_option linter.unusedSimpArgs false
open Go.RowKit

/-- What a block may turn into when it is written. -/
def relBlk : Blk → Blk → Prop
  | .box c, .box c' => ∀ p o, offP c' p = some o → offP c p = some o
  | .arr e k xs, .arr e' k' xs' => e' = e ∧ k' = k ∧ xs'.length = xs.length ∧ ∀ p o, offP (.st xs') p = some o → offP (.st xs) p = some o
  | .it _ _, .it _ _ => True
  | _, _ => False

theorem relBlk.live {x y : Blk} (h : relBlk x y) : x.live ∧ y.live := by
  cases x <;> cases y <;> simp_all [relBlk, Blk.live]

theorem set_get {H : List Blk} {id j : Nat} {x y : Blk} (h : (H.set id x)[j]? = some y) : (j = id ∧ y = x ∧ id < H.length) ∨ (j ≠ id ∧ H[j]? = some y) := by
  rw [List.getElem?_set] at h
  split at h
  · rename_i e
    subst e
    split at h
    · rename_i hl; cases h; exact .inl ⟨rfl, rfl, hl⟩
    · cases h
  · rename_i e; exact .inr ⟨fun k => e k.symm, h⟩

theorem ctx_set {X : Nat → Prop} {H : List Blk} {pl : Nat → Value} {w w' : World} {id : Nat} {blk blk' : Blk} (h0 : H[id]? = some blk) (hr : relBlk blk blk') (hb : hasBk (pl id) = true)
    (hw : ∀ b, b ≠ bk (pl id) → w'.heap[b]? = w.heap[b]?) (hz : w'.heap.size = w.heap.size) : (ctx X H pl w).Le (ctx X (H.set id blk') pl w') := by
  have hl := hr.live
  refine ⟨Nat.le_of_eq hz.symm, fun b _ ho => ?_, fun b _ ho => ?_, fun i n v h => ?_, fun i n p v h => ?_⟩
  · refine hw b fun e => ho (.inr ⟨id, blk, h0, hl.1, hb, e.symm⟩)
  · rcases ho with ho | ⟨j, y, h1, h2, h3, h4⟩
    · exact .inl ho
    rcases set_get h1 with ⟨rfl, rfl, _⟩ | ⟨_, h5⟩
    · exact .inr ⟨j, blk, h0, hl.1, h3, h4⟩
    · exact .inr ⟨j, y, h5, h2, h3, h4⟩
  · obtain ⟨h1, h2, h3⟩ := h
    refine ⟨by simpa using h1, h2, fun e k xs hx hn => ?_⟩
    rcases set_get hx with ⟨rfl, rfl, _⟩ | ⟨_, h5⟩
    · cases blk <;> simp only [relBlk] at hr
      obtain ⟨rfl, rfl, h6, _⟩ := hr
      exact h3 _ _ _ h0 (by omega)
    · exact h3 _ _ _ h5 hn
  · obtain ⟨h1, h2, h3, h4, h5⟩ := h
    refine ⟨by simpa using h1, h2, ?_, ?_, ?_⟩
    · intro c o hx ho
      rcases set_get hx with ⟨rfl, rfl, _⟩ | ⟨_, h6⟩
      · cases blk <;> simp only [relBlk] at hr
        exact h3 _ o h0 (hr _ _ ho)
      · exact h3 _ o h6 ho
    · intro e k xs o hx hn ho
      rcases set_get hx with ⟨rfl, rfl, _⟩ | ⟨_, h6⟩
      · cases blk <;> simp only [relBlk] at hr
        obtain ⟨rfl, rfl, h7, h8⟩ := hr
        exact h4 _ _ _ o h0 (by omega) (h8 _ _ ho)
      · exact h4 _ _ _ o h6 hn ho
    · intro s q hx
      rcases set_get hx with ⟨rfl, rfl, _⟩ | ⟨_, h6⟩
      · cases blk <;> simp only [relBlk] at hr
        exact h5 _ _ h0
      · exact h5 _ _ h6

theorem Good.set {X : Nat → Prop} {B : Nat} {W0 : Orig} {H : List Blk} {pl : Nat → Value} {w w' : World} (g : Good X B W0 H pl w) {id : Nat} {blk blk' : Blk} (h0 : H[id]? = some blk) (hr : relBlk blk blk')
    (hb : hasBk (pl id) = true) (hw : ∀ b, b ≠ bk (pl id) → w'.heap[b]? = w.heap[b]?) (hz : w'.heap.size = w.heap.size) (ho : w'.os = w.os) (ht : w'.tape = w.tape) (hu : w'.output = w.output)
    (hk : BlkOK B (ctx X (H.set id blk') pl w') (pl id) blk') : Good X B W0 (H.set id blk') pl w' := by
  have hl := ctx_set (X := X) (w := w) (w' := w') h0 hr hb hw hz
  have lv := hr.live
  have hlt := (g.ok id blk h0).hasBk_lt lv.1 hb
  have live : ∀ {i : Nat} {bi : Blk}, (H.set id blk')[i]? = some bi → bi.live → ∃ b0 : Blk, H[i]? = some b0 ∧ b0.live := by
    intro i bi hi li
    rcases set_get hi with ⟨rfl, rfl, _⟩ | ⟨_, h5⟩
    · exact ⟨blk, h0, lv.1⟩
    · exact ⟨bi, h5, li⟩
  refine ⟨g.below.trans ⟨ho, ht, hu, Nat.le_of_eq hz.symm, fun k hk' => hw k (by omega)⟩, g.base, fun j y hj => ?_, fun i j bi bj hi li hj lj ai aj hij => ?_, g.xlt,
    fun b h => (hw b fun e => g.apart id blk h0 lv.1 hb (e ▸ h)).trans (g.keepX b h), fun i bi hi li hv => ?_⟩
  · rcases set_get hj with ⟨rfl, rfl, _⟩ | ⟨hne, h5⟩
    · exact hk
    · have hk0 := g.ok j y h5
      by_cases ly : y.live
      · refine hk0.mono hl fun hv => hw _ fun e => hne (g.inj j id y blk h5 ly h0 lv.1 hv hb e)
      · cases y <;> first | trivial | exact absurd trivial ly
  · obtain ⟨b1, h1, l1⟩ := live hi li
    obtain ⟨b2, h2, l2⟩ := live hj lj
    exact g.inj i j b1 b2 h1 l1 h2 l2 ai aj hij
  · obtain ⟨b1, h1, l1⟩ := live hi li
    exact g.apart i b1 h1 l1 hv

theorem Sim.setBlk {X : Nat → Prop} {B : Nat} {W0 : Orig} {ts : List LV} {H : List Blk} {a : Act} {pl : Nat → Value} {w w' : World} (s : Sim X B W0 ⟨ts, H⟩ a w pl) {id : Nat} {blk blk' : Blk} (h0 : H[id]? = some blk) (hr : relBlk blk blk')
    (hb : hasBk (pl id) = true) (hw : ∀ b, b ≠ bk (pl id) → w'.heap[b]? = w.heap[b]?) (hz : w'.heap.size = w.heap.size) (ho : w'.os = w.os) (ht : w'.tape = w.tape) (hu : w'.output = w.output)
    (hk : BlkOK B (ctx X (H.set id blk') pl w') (pl id) blk') : Sim X B W0 ⟨ts, H.set id blk'⟩ a w' pl :=
  ⟨s.good.set h0 hr hb hw hz ho ht hu hk, s.defers, s.size, fun t x hx => RT.mono (ctx_set h0 hr hb hw hz) _ _ (s.tmps t x hx), s.le.trans (ctx_set h0 hr hb hw hz)⟩

/-! ### Reading a block -/

theorem CellsAt_cells {w : World} {b : Nat} {cur : Array Value} {ty : TypeId} {fr : Nat × Nat} (h : w.heap[b]? = some (.cells cur ty fr)) {es : List Value} (he : ∀ (j : Nat) (v : Value), es[j]? = some v → cur[j]? = some v) : CellsAt w ⟨b, 0, none⟩ es :=
  ⟨rfl, fun j v hv => by simp [World.cell?, h, he j v hv]⟩

theorem CellsAt_row {w : World} {B e k n : Nat} {v : Value} {es : List Value} (h : w.ownsRow B e k v n es) (hne : es ≠ []) : hasBk v = true ∧ CellsAt w ⟨bk v, 0, none⟩ es := by
  obtain ⟨h1, h2⟩ := h
  rcases h2 with ⟨rfl, rfl⟩ | ⟨g, cap, cur, rfl, _, h4, _, _, _, h8⟩
  · simp at h1; exact absurd h1 hne
  · refine ⟨rfl, CellsAt_cells (cur := cur) h4 fun j u hu => ?_⟩
    rw [← h8, List.getElem?_take] at hu
    split at hu
    · simpa using hu
    · cases hu

/-- What a handle's place reads. -/
theorem load_placeG {X : Nat → Prop} {B : Nat} {W0 : Orig} {H : List Blk} {pl : Nat → Value} {w : World} (g : Good X B W0 H pl w) {id n : Nat} {path : List Nat} {v : Value}
    (hv : hpOK H pl id n path v) {x : LV} (hx : (∃ c, H[id]? = some (.box c) ∧ getP c path = some x) ∨ (∃ e k xs, H[id]? = some (.arr e k xs) ∧ n = xs.length ∧ path ≠ [] ∧ getP (.st xs) path = some x)) :
    ∃ o es, v = .pointer (some ⟨bk (pl id), o, none⟩) ∧ CellsAt w ⟨bk (pl id), o, none⟩ es ∧ RC (ctx X H pl w) x es := by
  obtain ⟨h1, h2, h3, h4, _⟩ := hv
  rcases hx with ⟨c, h0, hg⟩ | ⟨e, k, xs, h0, hn, hne, hg⟩
  · obtain ⟨b, es, ty, e1, e2, e3, e4⟩ := g.ok id _ h0
    obtain ⟨pre, d, post, rfl, h5, h6⟩ := getP_off path c x es e4 hg
    have hc : CellsAt w ⟨b, 0, none⟩ (pre ++ d ++ post) := CellsAt_cells (w := w) e3 (fun j u hu => by simpa using hu)
    refine ⟨pre.length, d, h3 c _ h0 h5, ?_, h6⟩
    rw [e1]
    simpa [bk] using hc.mid
  · obtain ⟨es, e1, e2, e3, e4⟩ := g.ok id _ h0
    have e2' : RC (ctx X H pl w).pure (.st xs) es := RC_st.2 e2
    obtain ⟨pre, d, post, rfl, h5, h6⟩ := getP_off path (.st xs) x es e2' hg
    have hd : d ≠ [] ∨ d = [] := by by_cases h : d = [] <;> simp [h]
    by_cases he : pre ++ d ++ post = []
    · -- no cells at all: then nothing is read there
      simp at he
      obtain ⟨rfl, rfl, rfl⟩ := he
      refine ⟨0, [], by simpa using h4 e k xs _ h0 hn h5, ⟨rfl, fun j u hu => by simp at hu⟩, RC.mono (Ctx.pure_le _) _ _ h6⟩
    · obtain ⟨_, hc⟩ := CellsAt_row (w := w) e1 he
      exact ⟨pre.length, d, h4 e k xs _ h0 hn h5, by simpa using hc.mid, RC.mono (Ctx.pure_le _) _ _ h6⟩

theorem load_place {X : Nat → Prop} {B : Nat} {W0 : Orig} {ts : List LV} {H : List Blk} {a : Act} {pl : Nat → Value} {w : World} (s : Sim X B W0 ⟨ts, H⟩ a w pl) {id n : Nat} {path : List Nat} {v : Value}
    (hv : hpOK H pl id n path v) {x : LV} (hx : (∃ c, H[id]? = some (.box c) ∧ getP c path = some x) ∨ (∃ e k xs, H[id]? = some (.arr e k xs) ∧ n = xs.length ∧ path ≠ [] ∧ getP (.st xs) path = some x)) :
    ∃ o es, v = .pointer (some ⟨bk (pl id), o, none⟩) ∧ CellsAt w ⟨bk (pl id), o, none⟩ es ∧ RC (ctx X H pl w) x es := load_placeG s.good hv hx

end Go.Lg
