/- What a law's arguments read as: slices of structs of numbers and texts; that the reading of the arguments is carried over. -/
import Derived.Test.YtdhmnojnkgmmnaaALgN
import Derived.Deep.Slices
import Derived.Deep.Fields
import Derived.ChangeSame
import Derived.ChangeOld
import Derived.Lib.SmallJoins
namespace Go.Lg
variable [GI]
set_option linter.unusedSectionVars false
set_option linter.unusedVariables false
set_option linter.unusedSimpArgs false
open Go.RowKit Go.ChangeShapes Go.WideShapes Go.Deep Go.Joins

section
variable {H : Type} {enc : TypeId × Value → H} {P : Program} {w w' : World} {base : Nat} {spare : Nat → Bool} {held : Bool}

/-- The reading of arguments is carried over where nothing of them turns. -/
theorem trodAll_carry : ∀ {ts : List TypeId} {vs : List Value} {ds : List (DataW H)} {ps : List MemPlace}, DataW.TrodAll enc P w base spare held ts vs ds ps → (∀ p ∈ ps, w.sameAt w' p) →
    DataW.TrodAll enc P w' base spare held ts vs ds ps
  | [], vs, ds, ps, h, _ => by obtain ⟨rfl, rfl, rfl⟩ := trodAll_nil h; exact trodAll_mk0
  | t :: ts, vs, ds, ps, h, hs => by
    obtain ⟨v0, vs0, d0, ds0, p0, q0, rfl, rfl, rfl, h0, r0⟩ := trodAll_cons h
    refine trodAll_cons_mk ?_ (trodAll_carry r0 fun p hp => hs p (by simp [hp]))
    obtain ⟨n, hn⟩ := h0
    exact ⟨n, DataW.trod_carry _ _ _ _ hn fun p hp => hs p (by simp at hp ⊢; exact .inl hp)⟩

/-- A field that is a number or a text. -/
def litK : TK → LV → Prop
  | .int k, x => ∃ n, x = .int k n
  | .str, x => ∃ s : ByteArray, x = .str s ∧ s.size ≤ maxLen
  | .bool, x => ∃ b, x = .bool b
  | _, _ => False

def shapeK : List TK → List LV → Prop
  | [], [] => True
  | k :: ks, x :: xs => litK k x ∧ shapeK ks xs
  | _, _ => False

theorem shapeK_snoc : ∀ {ks : List TK} {xs : List LV} {k : TK} {x : LV}, shapeK ks xs → litK k x → shapeK (ks ++ [k]) (xs ++ [x])
  | [], [], _, _, _, h => ⟨h, trivial⟩
  | [], _ :: _, _, _, h, _ => h.elim
  | _ :: _, [], _, _, h, _ => h.elim
  | _ :: _, _ :: _, _, _, h, h2 => ⟨h.1, shapeK_snoc h.2 h2⟩

theorem litK_size {k : TK} {x : LV} (h : litK k x) : x.size = 1 := by
  cases k <;> simp only [litK] at h
  · obtain ⟨n, rfl⟩ := h; rfl
  · obtain ⟨n, rfl⟩ := h; rfl
  · obtain ⟨n, rfl, _⟩ := h; rfl
theorem shapeK_sizes : ∀ {ks : List TK} {xs : List LV}, shapeK ks xs → LV.sizes xs = ks.length
  | [], [], _ => rfl
  | [], _ :: _, h => h.elim
  | _ :: _, [], h => h.elim
  | k :: ks, x :: xs, h => by simp only [LV.sizes, litK_size h.1, shapeK_sizes h.2, List.length_cons]; omega

theorem lit_of_trod {ρ : Ctx} {t : TypeId} {d : TypeDesc} {k : TK} {n : Nat} {v : Value} {y : DataW H × List MemPlace} (ht : P.underlying t = some d) (hk : kindOf d = k) (hl : k = .str ∨ k = .bool ∨ ∃ i, k = .int i)
    (h : DataW.trod enc P w base spare held n t [v] = some y) : ∃ x, litK k x ∧ RC ρ x [v] := by
  rcases hl with rfl | rfl | ⟨i, rfl⟩
  · obtain rfl := kind_str hk
    obtain ⟨s, h1, _, h3⟩ := DataW.trod_string ht h
    exact ⟨.str s, ⟨s, rfl, h3⟩, by simp only [RC]; exact ⟨h1, h3⟩⟩
  · obtain rfl := kind_bool hk
    obtain ⟨b, h1, _⟩ := DataW.trod_bool ht h
    exact ⟨.bool b, ⟨b, rfl⟩, by simp only [RC]; exact h1⟩
  · obtain rfl := kind_int hk
    obtain ⟨m, h1, _⟩ := DataW.trod_int ht h
    exact ⟨.int i m, ⟨m, rfl⟩, by simp only [RC]; exact h1⟩

/-- A row of structs, its cells read one by one. -/
theorem open_rows {t e : TypeId} {fs : Array Field} {fuel : Nat} {cs : List Value} {x : DataW H × List MemPlace} (ht : P.underlying t = some (.slice e)) (he : P.underlying e = some (.struct fs))
    (hone : oneCellFields P fs = true) (hC : P.cellsOf e = fs.size) (h : DataW.trod enc P w base (fun _ => true) held fuel t cs = some x) :
    cs = [.slice none 0 0] ∨ ∃ (a : Addr) (len cap : Nat), cs = [.slice (some a) len cap] ∧ len ≤ cap ∧ cap ≤ maxLen ∧
      ∀ i, i < len → ∀ (j : Nat) (f : Field), fs[j]? = some f → ∃ (n : Nat) (v : Value) (y : DataW H × List MemPlace), w.cell? (a.add (i * fs.size + j)) = some v ∧ DataW.trod enc P w base (fun _ => true) held n f.type [v] = some y := by
  rcases open_slice ht h with h0 | ⟨a, len, cap, m, n, D, Pl, hcs, _, hl, hm, hmm, _, hi⟩
  · exact .inl h0.1
  refine .inr ⟨a, len, cap, hcs, hl, hm, fun i hil j f hj => ?_⟩
  have him : i < m := by rw [hmm]; simp; omega
  obtain ⟨cs', hc, ht'⟩ := hi i him
  rw [hC] at hc
  obtain ⟨ys, n', _, _, hlen, hyl, hf⟩ := DataW.trod_struct he ht'
  obtain ⟨_, _, hat⟩ := World.cells?_some hc
  obtain ⟨ho, hk⟩ := hone_of hone j f hj
  have hjl : j < fs.size := (Array.getElem?_eq_some_iff.1 hj).1
  have hcl : j < cs'.length := by
    have := World.cells?_some hc
    omega
  have hcell := hat j hjl
  have h1 := hf j f hj
  rw [ho, hk, List.drop_eq_getElem_cons hcl] at h1
  have hys : ys[j]? = some (ys[j]'(by omega)) := List.getElem?_eq_getElem (by omega)
  refine ⟨n', _, _, ?_, h1.trans hys⟩
  rw [← Go.Deep.add_add, hcell, List.getElem?_eq_getElem hcl]


/-- The fields are numbers and texts of these kinds. -/
def fieldsK (P : Program) (fs : Array Field) (ks : List TK) : Prop :=
  ks.length = fs.size ∧ ∀ (j : Nat) (f : Field), fs[j]? = some f → ∃ d k, P.underlying f.type = some d ∧ kindOf d = k ∧ ks[j]? = some k ∧ (k = .str ∨ k = .bool ∨ ∃ i, k = .int i)

def fieldsB (P : Program) (fs : Array Field) (ks : List TK) : Bool :=
  Nat.beq ks.length fs.size && (List.range fs.size).all fun j => match fs[j]?, ks[j]? with
    | some f, some k => (match P.underlying f.type with | some d => decide (kindOf d = k) && (match k with | .str => true | .bool => true | .int _ => true | _ => false) | none => false)
    | _, _ => false
theorem fieldsK_of {fs : Array Field} {ks : List TK} (h : fieldsB P fs ks = true) : fieldsK P fs ks := by
  simp only [fieldsB, Bool.and_eq_true] at h
  refine ⟨Nat.eq_of_beq_eq_true h.1, fun j f hf => ?_⟩
  have hlt : j < fs.size := (Array.getElem?_eq_some_iff.1 hf).1
  have := List.all_eq_true.1 h.2 j (List.mem_range.2 hlt)
  rw [hf] at this
  cases hk : ks[j]? with
  | none => rw [hk] at this; cases this
  | some k =>
    rw [hk] at this
    simp only at this
    cases hu : P.underlying f.type with
    | none => rw [hu] at this; cases this
    | some d =>
      rw [hu] at this
      simp only [Bool.and_eq_true, decide_eq_true_eq] at this
      refine ⟨d, k, rfl, this.1, rfl, ?_⟩
      have h2 := this.2
      cases k <;> first | (cases h2; done) | exact .inl rfl | exact .inr (.inl rfl) | exact .inr (.inr ⟨_, rfl⟩)

theorem row_ex {ρ : Ctx} {fs : Array Field} {ks : List TK} (hK : fieldsK P fs ks) {a : Addr} {i : Nat}
    (h : ∀ (j : Nat) (f : Field), fs[j]? = some f → ∃ (n : Nat) (v : Value) (y : DataW H × List MemPlace), w.cell? (a.add (i * fs.size + j)) = some v ∧ DataW.trod enc P w base (fun _ => true) held n f.type [v] = some y) :
    ∀ q, q ≤ fs.size → ∃ ls rs, shapeK (ks.take q) ls ∧ RCs ρ ls rs ∧ rs.length = q ∧ ∀ (j : Nat) v, rs[j]? = some v → w.cell? (a.add (i * fs.size + j)) = some v := by
  intro q
  induction q with
  | zero => intro _; exact ⟨[], [], by simp [shapeK], by simp [RCs], rfl, fun j v hv => by simp at hv⟩
  | succ q ih =>
    intro hq
    obtain ⟨ls, rs, h1, h2, h3, h4⟩ := ih (by omega)
    have hf : fs[q]? = some fs[q] := Array.getElem?_eq_getElem (by omega)
    obtain ⟨d, k, g1, g2, g3, g4⟩ := hK.2 q _ hf
    obtain ⟨n, v, y, c1, c2⟩ := h q _ hf
    obtain ⟨x, l1, l2⟩ := lit_of_trod (ρ := ρ) g1 g2 g4 c2
    refine ⟨ls ++ [x], rs ++ [v], ?_, RCs_join _ _ _ _ h2 ⟨[v], [], rfl, l2, by simp [RCs]⟩, by simp [h3], fun j u hu => ?_⟩
    · have hql : q < ks.length := by rw [hK.1]; omega
      rw [List.take_add_one, g3]
      exact shapeK_snoc h1 l1
    · by_cases hj : j < q
      · rw [List.getElem?_append_left (by omega)] at hu
        exact h4 j u hu
      · rw [List.getElem?_append_right (by omega), h3] at hu
        have : j = q := by
          have := lt_of_get hu
          simp at this
          omega
        subst this
        simp at hu
        subst hu
        exact c1

theorem rows_ex {ρ : Ctx} {fs : Array Field} {ks : List TK} (hK : fieldsK P fs ks) {a : Addr} {len : Nat}
    (h : ∀ i, i < len → ∀ (j : Nat) (f : Field), fs[j]? = some f → ∃ (n : Nat) (v : Value) (y : DataW H × List MemPlace), w.cell? (a.add (i * fs.size + j)) = some v ∧ DataW.trod enc P w base (fun _ => true) held n f.type [v] = some y) :
    ∀ q, q ≤ len → ∃ xs es, xs.length = q ∧ es.length = q * fs.size ∧ RCs ρ xs es ∧ (∀ x ∈ xs, ∃ ls, x = .st ls ∧ shapeK ks ls) ∧ ∀ (j : Nat) v, es[j]? = some v → w.cell? (a.add j) = some v := by
  intro q
  induction q with
  | zero => intro _; exact ⟨[], [], rfl, by simp, by simp [RCs], by simp, fun j v hv => by simp at hv⟩
  | succ q ih =>
    intro hq
    obtain ⟨xs, es, h0, h1, h2, h3, h4⟩ := ih (by omega)
    obtain ⟨ls, rs, r1, r2, r3, r4⟩ := row_ex (ρ := ρ) hK (h q (by omega)) fs.size (Nat.le_refl _)
    rw [List.take_of_length_le (by rw [hK.1]; exact Nat.le_refl _)] at r1
    refine ⟨xs ++ [.st ls], es ++ rs, by simp [h0], by simp [h1, r3, Nat.succ_mul], RCs_join _ _ _ _ h2 ⟨rs, [], by simp, by simpa [RC] using r2, by simp [RCs]⟩, fun x hx => ?_, fun j v hv => ?_⟩
    · rcases List.mem_append.1 hx with hx | hx
      · exact h3 x hx
      · simp at hx; subst hx; exact ⟨ls, rfl, r1⟩
    · by_cases hj : j < es.length
      · rw [List.getElem?_append_left hj] at hv
        exact h4 j v hv
      · rw [List.getElem?_append_right (by omega)] at hv
        have := r4 _ v hv
        rwa [show q * fs.size + (j - es.length) = j by omega] at this

/-- A slice of structs reads as a frozen row. -/
theorem sl_of_rows {O : Nat → Prop} (hO : ∀ b, ¬ O b) {t e : TypeId} {fs : Array Field} {ks : List TK} {fuel : Nat} {cs : List Value} {x : DataW H × List MemPlace} (ht : P.underlying t = some (.slice e))
    (he : P.underlying e = some (.struct fs)) (hone : oneCellFields P fs = true) (hC : P.cellsOf e = fs.size) (hK : fieldsK P fs ks) (hpos : 0 < fs.size) (h : DataW.trod enc P w base (fun _ => true) held fuel t cs = some x) :
    ∃ xs, RC (pctx O w) (.sl xs) cs ∧ xs.length ≤ maxLen ∧ ∀ x ∈ xs, ∃ ls, x = .st ls ∧ shapeK ks ls := by
  rcases open_rows ht he hone hC h with rfl | ⟨a, len, cap, rfl, hl, hm, hr⟩
  · exact ⟨[], by simp only [RC]; exact ⟨none, 0, rfl, Nat.le_refl _, Nat.zero_le _, .inl trivial⟩, by simp, by simp⟩
  obtain ⟨xs, es, h0, h1, h2, h3, h4⟩ := rows_ex (ρ := (pctx O w).pure) hK hr len (Nat.le_refl _)
  refine ⟨xs, ?_, by omega, h3⟩
  simp only [RC]
  refine ⟨some a, cap, by rw [h0], by omega, hm, ?_⟩
  by_cases hz : len = 0
  · left
    exact List.eq_nil_of_length_eq_zero (by omega)
  right
  have hlt : 0 < es.length := by rw [h1]; exact Nat.mul_pos (by omega) hpos
  have hc0 := h4 0 es[0] (List.getElem?_eq_getElem hlt)
  have ha0 : a.add 0 = a := by unfold Addr.add; simp
  rw [ha0] at hc0
  have hsp := World.cell?_spot hc0
  obtain ⟨b, o, sp⟩ := a
  simp only at hsp
  subst hsp
  refine ⟨⟨b, o, none⟩, es, fs.size, rfl, ?_, hO _, h2, ⟨rfl, fun j v hv => ?_⟩, fun x hx => ?_⟩
  · unfold World.cell? at hc0
    show b < w.heap.size
    rcases Nat.lt_or_ge b w.heap.size with hb | hb
    · exact hb
    · simp [Array.getElem?_eq_none hb] at hc0
  · have := h4 j v hv
    rwa [add_none] at this
  · obtain ⟨ls, rfl, hs⟩ := h3 x hx
    show LV.sizes ls = fs.size
    rw [shapeK_sizes hs, hK.1]

end
end Go.Lg
