/- Loads, stores and fields' addresses, told so that they can be worked out where the blocks are written out. -/
import Derived.Test.YtbiagkccgijdlaaGreatALgS
namespace Go.Lg
variable [GI]
set_option linter.unusedSectionVars false
set_option linter.unusedVariables false
set_option linter.unusedSimpArgs false
open Go.RowKit

mutual
/-- A reading, its fields written out. -/
def deepK : LV → (LV → Prop) → Prop
  | .st fs, K => deepsK fs fun gs => K (.st gs)
  | .undef, K => K .undef
  | .int k n, K => K (.int k n)
  | .bool b, K => K (.bool b)
  | .lit b, K => K (.lit b)
  | .str s, K => K (.str s)
  | .nil, K => K .nil
  | .sl xs, K => K (.sl xs)
  | .own e k xs, K => K (.own e k xs)
  | .tup vs, K => K (.tup vs)
  | .ref c, K => K (.ref c)
  | .clos f c, K => K (.clos f c)
  | .ifc f c, K => K (.ifc f c)
  | .hs i n, K => K (.hs i n)
  | .hp i n p, K => K (.hp i n p)
def deepsK : List LV → (List LV → Prop) → Prop
  | [], K => K []
  | x :: xs, K => deepK x fun y => deepsK xs fun ys => K (y :: ys)
end
mutual
theorem deepK_eq : ∀ (x : LV) (K : LV → Prop), deepK x K = K x
  | .st fs, K => by simp only [deepK, deepsK_eq fs]
  | .undef, K => rfl
  | .int _ _, K => rfl
  | .bool _, K => rfl
  | .lit _, K => rfl
  | .str _, K => rfl
  | .nil, K => rfl
  | .sl _, K => rfl
  | .own _ _ _, K => rfl
  | .tup _, K => rfl
  | .ref _, K => rfl
  | .clos _ _, K => rfl
  | .ifc _ _, K => rfl
  | .hs _ _, K => rfl
  | .hp _ _ _, K => rfl
theorem deepsK_eq : ∀ (xs : List LV) (K : List LV → Prop), deepsK xs K = K xs
  | [], K => rfl
  | x :: xs, K => by simp only [deepsK, deepK_eq x, deepsK_eq xs]
end

def loadE (T : Tab) (H : List Blk) (t : TypeId) (p : LV) (K : LV → Prop) : Prop :=
  match T t with
  | none => False
  | some i => match p with
    | .ref c => match fitT i c with | true => K c | false => False
    | .hp id n path => match H[id]? with
      | some (.box c) => match getP c path with
        | some x => match fitT i x with | true => K x | false => False
        | none => False
      | some (.arr _ _ xs) => n = xs.length ∧ path ≠ [] ∧ ∃ x, getP (.st xs) path = some x ∧ fitT i x = true ∧ K x
      | some (.tree _ _ xs) => n = xs.length ∧ path ≠ [] ∧ ∃ x, getP (.st xs) path = some x ∧ noOwn x = true ∧ fitT i x = true ∧ K x
      | _ => False
    | _ => False

theorem loadE_W {T : Tab} {H : List Blk} {t : TypeId} {p : LV} {K : LV → Prop} (h : loadE T H t p K) : loadW T H t p K := by
  unfold loadE at h
  unfold loadW
  cases hi : T t with
  | none => rw [hi] at h; exact h.elim
  | some i =>
    rw [hi] at h
    cases p <;> simp only at h ⊢ <;> try exact h.elim
    case ref c => exact h
    case hp id n path =>
      cases hc : H[id]? with
      | none => rw [hc] at h; exact h.elim
      | some b =>
        rw [hc] at h
        rcases b with _ | _ | ⟨_ | _, _, _, _⟩ | _ | _ <;> simp only at h ⊢ <;> try exact h.elim
        · rename_i c
          cases hg : getP c path with
          | none => rw [hg] at h; exact h.elim
          | some x =>
            rw [hg] at h
            simp only at h
            cases hf : fitT i x with
            | false => rw [hf] at h; exact h.elim
            | true => rw [hf] at h; exact ⟨x, rfl, hf, h⟩
        · exact h
        · exact h

theorem loadE_ex {T : Tab} {H : List Blk} {t : TypeId} {p : LV} {K : LV → Prop} (h : loadE T H t p K) : ∃ x, K x ∧ ∀ K' : LV → Prop, K' x → loadE T H t p K' := by
  unfold loadE at h ⊢
  cases hi : T t with
  | none => rw [hi] at h; exact h.elim
  | some i =>
    rw [hi] at h
    cases p <;> simp only at h ⊢ <;> try exact h.elim
    case ref c =>
      cases hf : fitT i c <;> rw [hf] at h
      · exact h.elim
      · exact ⟨_, h, fun _ h => h⟩
    case hp id n path =>
      cases hc : H[id]? with
      | none => rw [hc] at h; exact h.elim
      | some b =>
        rw [hc] at h
        rcases b with _ | _ | ⟨_ | _, _, _, _⟩ | _ | _ <;> simp only at h ⊢ <;> try exact h.elim
        · rename_i c
          cases hg : getP c path with
          | none => rw [hg] at h; exact h.elim
          | some x =>
            rw [hg] at h
            simp only at h ⊢
            cases hf : fitT i x with
            | false => rw [hf] at h; exact h.elim
            | true => rw [hf] at h; exact ⟨x, h, fun _ h => h⟩
        · obtain ⟨h0, h0', x, h1, h2, h3⟩ := h; exact ⟨x, h3, fun _ h => ⟨h0, h0', x, h1, h2, h⟩⟩
        · obtain ⟨h0, h0', x, h1, ho, h2, h3⟩ := h; exact ⟨x, h3, fun _ h => ⟨h0, h0', x, h1, ho, h2, h⟩⟩

def storeE (T : Tab) (H : List Blk) (t : TypeId) (p x : LV) (K : Nat → Blk → Prop) : Prop :=
  match T t with
  | none => False
  | some i => match p with
    | .hp id n path => match H[id]? with
      | some (.box c) => match getP c path with
        | some y => match fitT i x with
          | true => match same y x with
            | true => deepK (setP c path x) fun c' => K id (.box c')
            | false => False
          | false => False
        | none => False
      | some (.arr e k xs) => n = xs.length ∧ ∃ j q y, path = j :: q ∧ getP (.st xs) path = some y ∧ fitT i x = true ∧ isPure x = true ∧ same y x = true ∧
          ∃ zs, (match xs[j]? with | some z => xs.set j (setP z q x) | none => xs) = zs ∧ K id (.arr e k zs)
      | _ => False
    | _ => False

theorem storeE_W {T : Tab} {H : List Blk} {t : TypeId} {p x : LV} {K : List Blk → Prop} (h : storeE T H t p x fun id b => K (H.set id b)) : storeW T H t p x K := by
  unfold storeE at h
  cases hi : T t with
  | none => rw [hi] at h; exact h.elim
  | some i =>
    rw [hi] at h
    cases p <;> simp only at h <;> try exact h.elim
    rename_i id n path
    cases hc : H[id]? with
    | none => rw [hc] at h; exact h.elim
    | some b =>
      rw [hc] at h
      rcases b with _ | _ | ⟨_ | _, _, _, _⟩ | _ | _ <;> simp only at h <;> try exact h.elim
      · rename_i c
        cases hg : getP c path with
        | none => rw [hg] at h; exact h.elim
        | some y =>
          rw [hg] at h
          simp only at h
          cases hf : fitT i x with
          | false => rw [hf] at h; exact h.elim
          | true =>
            rw [hf] at h
            simp only at h
            cases hs : same y x with
            | false => rw [hs] at h; exact h.elim
            | true => rw [hs] at h; simp only [deepK_eq] at h; unfold storeW; simp only [hi, hc]; exact ⟨y, hg, hf, hs, h⟩
      · obtain ⟨h0, j, q, y, h1, h2, h3, h4, h5, zs, rfl, h6⟩ := h
        unfold storeW; simp only [hi, hc]; exact ⟨h0, j, q, y, h1, h2, h3, h4, h5, h6⟩

def fieldAddrE (T : Tab) (H : List Blk) (t : TypeId) (p : LV) (f : Nat) (K : LV → Prop) : Prop :=
  match T t with
  | some ⟨.struct fts offs, _, _⟩ => match fts[f]?, offs[f]? with
    | some ft, some off => match T ft with
      | none => False
      | some fi => match Nat.beq fi.size 0 with
        | true => False
        | false => match p with
          | .ref (.st fs) => match Nat.beq (LV.sizes (fs.take f)) off with
            | false => False
            | true => match fs[f]? with
              | some x => K (.ref x)
              | none => False
          | .hp id n path => match H[id]? with
            | some (.box c) => match getP c path with
              | some (.st fs) => match Nat.beq (LV.sizes (fs.take f)) off with
                | false => False
                | true => match Nat.blt f fs.length with
                  | true => K (.hp id n (path ++ [f]))
                  | false => False
              | _ => False
            | some (.row _ _ _ xs) => n = xs.length ∧ path ≠ [] ∧ ∃ fs, getP (.st xs) path = some (.st fs) ∧ LV.sizes (fs.take f) = off ∧ f < fs.length ∧ K (.hp id n (path ++ [f]))
            | _ => False
          | _ => False
    | _, _ => False
  | _ => False

theorem fieldAddrE_both {T : Tab} {H : List Blk} {t : TypeId} {p : LV} {f : Nat} {K : LV → Prop} (h : fieldAddrE T H t p f K) :
    fieldAddrW T H t p f K ∧ ∃ x, K x ∧ ∀ K' : LV → Prop, K' x → fieldAddrE T H t p f K' := by
  unfold fieldAddrE at h ⊢
  unfold fieldAddrW
  split at h
  · rename_i fts offs sz by' hi
    try simp only [hi]
    split at h
    · rename_i ft off hft hoff
      try simp only [hft, hoff]
      cases hfi : T ft with
      | none => rw [hfi] at h; exact h.elim
      | some fi =>
        rw [hfi] at h
        simp only at h ⊢
        cases hz : Nat.beq fi.size 0 with
        | true => rw [hz] at h; exact h.elim
        | false =>
          rw [hz] at h
          simp only at h ⊢
          have hz' : fi.size ≠ 0 := Nat.ne_of_beq_eq_false hz
          split at h
          · rename_i fs
            cases hb : Nat.beq (LV.sizes (fs.take f)) off with
            | false => rw [hb] at h; exact h.elim
            | true =>
              rw [hb] at h
              simp only at h
              have hb' := Nat.eq_of_beq_eq_true hb
              cases hx : fs[f]? with
              | none => rw [hx] at h; exact h.elim
              | some x =>
                rw [hx] at h
                simp only at h
                refine ⟨⟨hz', hb', x, hx, h⟩, .ref x, h, fun K' hk => ?_⟩
                simp only [hx]; exact hk
          · rename_i id n path
            cases hc : H[id]? with
            | none => rw [hc] at h; exact h.elim
            | some b =>
              rw [hc] at h
              cases b <;> simp only at h ⊢ <;> try exact h.elim
              · rename_i c
                split at h
                · rename_i fs hg
                  cases hb : Nat.beq (LV.sizes (fs.take f)) off with
                  | false => rw [hb] at h; exact h.elim
                  | true =>
                    rw [hb] at h
                    simp only at h
                    have hb' := Nat.eq_of_beq_eq_true hb
                    cases hl : Nat.blt f fs.length with
                    | false => rw [hl] at h; exact h.elim
                    | true =>
                      rw [hl] at h
                      have hl' : f < fs.length := by simpa [Nat.blt_eq] using hl
                      refine ⟨⟨hz', by rw [hc]; exact ⟨fs, hg, hb', hl', h⟩⟩, _, h, fun K' hk => ?_⟩
                      simp only [hg, hb, hl]; exact hk
                · exact h.elim
              · obtain ⟨hn, hne, fs, h1, h2, h3, h4⟩ := h; exact ⟨⟨hz', by rw [hc]; exact ⟨hn, hne, fs, h1, h2, h3, h4⟩⟩, _, h4, fun _ h => ⟨hn, hne, fs, h1, h2, h3, h⟩⟩
          · exact h.elim
    · exact h.elim
  · exact h.elim

theorem fieldAddrE_W {T : Tab} {H : List Blk} {t : TypeId} {p : LV} {f : Nat} {K : LV → Prop} (h : fieldAddrE T H t p f K) : fieldAddrW T H t p f K := (fieldAddrE_both h).1
theorem fieldAddrE_ex {T : Tab} {H : List Blk} {t : TypeId} {p : LV} {f : Nat} {K : LV → Prop} (h : fieldAddrE T H t p f K) : ∃ x, K x ∧ ∀ K' : LV → Prop, K' x → fieldAddrE T H t p f K' := (fieldAddrE_both h).2

end Go.Lg

