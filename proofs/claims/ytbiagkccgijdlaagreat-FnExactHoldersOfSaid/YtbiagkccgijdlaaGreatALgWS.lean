/- What a law's arguments read as, of any shape made of numbers, texts, structs and slices: frozen. -/
import Derived.Test.YtbiagkccgijdlaaGreatALgW
import Derived.ChangeBook
namespace Go.Lg
variable [GI]
set_option linter.unusedSectionVars false
set_option linter.unusedVariables false
set_option linter.unusedSimpArgs false
open Go.RowKit Go.ChangeShapes Go.WideShapes Go.Deep Go.Joins

inductive Sh where
  | int (k : IntKind)
  | str
  | bool
  | byte
  | sl (s : Sh)
  | st (fs : List Sh)

mutual
def Sh.size : Sh → Nat
  | .st fs => Sh.sizes fs
  | _ => 1
def Sh.sizes : List Sh → Nat
  | [] => 0
  | s :: ss => s.size + Sh.sizes ss
end

mutual
def hasSh : Sh → LV → Prop
  | .int k, x => ∃ n, x = .int k n
  | .str, x => ∃ s : ByteArray, x = .str s ∧ s.size ≤ maxLen
  | .bool, x => ∃ b, x = .bool b
  | .byte, x => ∃ n : Nat, x = .int .u8 (n : Int) ∧ n < 256
  | .sl s, x => ∃ xs : List LV, x = .sl xs ∧ xs.length ≤ maxLen ∧ ∀ y ∈ xs, hasSh s y
  | .st fs, x => ∃ xs, x = .st xs ∧ hasShs fs xs
def hasShs : List Sh → List LV → Prop
  | [], [] => True
  | s :: ss, x :: xs => hasSh s x ∧ hasShs ss xs
  | _, _ => False
end

mutual
theorem hasSh_size : ∀ (s : Sh) (x : LV), hasSh s x → x.size = s.size
  | .int k, x, h => by simp only [hasSh] at h; obtain ⟨n, rfl⟩ := h; rfl
  | .str, x, h => by simp only [hasSh] at h; obtain ⟨n, rfl, _⟩ := h; rfl
  | .bool, x, h => by simp only [hasSh] at h; obtain ⟨n, rfl⟩ := h; rfl
  | .byte, x, h => by simp only [hasSh] at h; obtain ⟨n, rfl, _⟩ := h; rfl
  | .sl s, x, h => by simp only [hasSh] at h; obtain ⟨n, rfl, _⟩ := h; rfl
  | .st fs, x, h => by simp only [hasSh] at h; obtain ⟨xs, rfl, h⟩ := h; simp only [LV.size, Sh.size]; exact hasShs_sizes fs xs h
theorem hasShs_sizes : ∀ (ss : List Sh) (xs : List LV), hasShs ss xs → LV.sizes xs = Sh.sizes ss
  | [], [], _ => rfl
  | [], _ :: _, h => by simp [hasShs] at h
  | _ :: _, [], h => by simp [hasShs] at h
  | s :: ss, x :: xs, h => by
    simp only [hasShs] at h
    simp only [LV.sizes, Sh.sizes, hasSh_size s x h.1, hasShs_sizes ss xs h.2]
end

mutual
/-- The type is of this shape. -/
def shB (P : Program) : Sh → TypeId → Bool
  | .int k, t => match P.underlying t with | some (.int k') => decide (k' = k) | _ => false
  | .str, t => match P.underlying t with | some .string => true | _ => false
  | .bool, t => match P.underlying t with | some .bool => true | _ => false
  | .byte, t => match P.underlying t with | some (.int k') => decide (k' = .u8) | _ => false
  | .sl s, t => match P.underlying t with | some (.slice e) => Nat.beq (P.cellsOf e) s.size && Nat.blt 0 s.size && shB P s e | _ => false
  | .st fs, t => match P.underlying t with | some (.struct fields) => Nat.beq (P.cellsOf t) (Sh.sizes fs) && shsB P 0 fs fields.toList | _ => false
def shsB (P : Program) : Nat → List Sh → List Field → Bool
  | _, [], [] => true
  | o, s :: ss, f :: fs => Nat.beq f.offset o && Nat.beq (P.cellsOf f.type) s.size && shB P s f.type && shsB P (o + s.size) ss fs
  | _, _, _ => false
end

section
variable {H : Type} {enc : TypeId × Value → H} {P : Program} {w w' : World} {base : Nat} {held : Bool} {O : Nat → Prop}

theorem cells_ex {k len : Nat} {s : Sh} {a : Addr} (hk : s.size = k)
    (h : ∀ i, i < len → ∃ cs : List Value, cs.length = k ∧ (∀ j, j < k → w.cell? (a.add (i * k + j)) = cs[j]?) ∧ ∃ y, hasSh s y ∧ RC (pctx O w).pure y cs) :
    ∀ q, q ≤ len → ∃ xs es, xs.length = q ∧ es.length = q * k ∧ RCs (pctx O w).pure xs es ∧ (∀ x ∈ xs, hasSh s x) ∧ ∀ (j : Nat) v, es[j]? = some v → w.cell? (a.add j) = some v := by
  intro q
  induction q with
  | zero => intro _; exact ⟨[], [], rfl, by simp, by simp [RCs], by simp, fun j v hv => by simp at hv⟩
  | succ q ih =>
    intro hq
    obtain ⟨xs, es, h0, h1, h2, h3, h4⟩ := ih (by omega)
    obtain ⟨cs, c1, c2, y, c3, c4⟩ := h q (by omega)
    refine ⟨xs ++ [y], es ++ cs, by simp [h0], by simp [h1, c1, Nat.succ_mul], RCs_join _ _ _ _ h2 ⟨cs, [], by simp, c4, by simp [RCs]⟩, fun x hx => ?_, fun j v hv => ?_⟩
    · rcases List.mem_append.1 hx with hx | hx
      · exact h3 x hx
      · simp at hx; subst hx; exact c3
    · by_cases hj : j < es.length
      · rw [List.getElem?_append_left hj] at hv
        exact h4 j v hv
      · rw [List.getElem?_append_right (by omega)] at hv
        have hlt := lt_of_get hv
        have := c2 (j - es.length) (by omega)
        rw [hv] at this
        rwa [show q * k + (j - es.length) = j by omega] at this

mutual
theorem sh_of_trod (hO : ∀ b, ¬ O b) : ∀ (s : Sh) (t : TypeId) (fuel : Nat) (cs : List Value) (x : DataW H × List MemPlace), shB P s t = true → DataW.trod enc P w base (fun _ => true) held fuel t cs = some x → ∃ y, hasSh s y ∧ RC (pctx O w) y cs
  | .int k, t, fuel, cs, x, hs, h => by
    simp only [shB] at hs
    split at hs
    · rename_i k' ht
      have := of_decide_eq_true hs
      subst this
      obtain ⟨m, h1, _⟩ := DataW.trod_int ht h
      exact ⟨.int k' m, by simp only [hasSh]; exact ⟨m, rfl⟩, by simp only [RC]; exact h1⟩
    · cases hs
  | .str, t, fuel, cs, x, hs, h => by
    simp only [shB] at hs
    split at hs
    · rename_i ht
      obtain ⟨s, h1, _, h3⟩ := DataW.trod_string ht h
      exact ⟨.str s, by simp only [hasSh]; exact ⟨s, rfl, h3⟩, by simp only [RC]; exact ⟨h1, h3⟩⟩
    · cases hs
  | .bool, t, fuel, cs, x, hs, h => by
    simp only [shB] at hs
    split at hs
    · rename_i ht
      obtain ⟨b, h1, _⟩ := DataW.trod_bool ht h
      exact ⟨.bool b, by simp only [hasSh]; exact ⟨b, rfl⟩, by simp only [RC]; exact h1⟩
    · cases hs
  | .byte, t, fuel, cs, x, hs, h => by
    simp only [shB] at hs
    split at hs
    · rename_i k' ht
      have := of_decide_eq_true hs
      subst this
      obtain ⟨m, h1, _, h2⟩ := DataW.trod_int ht h
      have h3 : (0 : Int) ≤ m ∧ m ≤ 255 := by
        simp only [Lit.wf, Bool.and_eq_true, decide_eq_true_eq] at h2
        exact ⟨h2.1, h2.2⟩
      refine ⟨.int .u8 m, ?_, by simp only [RC]; exact h1⟩
      simp only [hasSh]
      exact ⟨m.toNat, by rw [Int.toNat_of_nonneg h3.1], by omega⟩
    · cases hs
  | .sl s, t, fuel, cs, x, hs, h => by
    simp only [shB] at hs
    split at hs
    rotate_left
    · cases hs
    rename_i e ht
    simp only [Bool.and_eq_true, Nat.beq_eq, Nat.blt_eq] at hs
    obtain ⟨⟨hk, hpos⟩, hse⟩ := hs
    rcases open_slice ht h with h0 | ⟨a, len, cap, m, n, D, Pl, hcs, _, hl, hm, hmm, _, hi⟩
    · refine ⟨.sl [], by simp only [hasSh]; exact ⟨[], rfl, by simp, by simp⟩, ?_⟩
      simp only [RC]
      exact ⟨none, 0, h0.1, Nat.le_refl _, Nat.zero_le _, .inl trivial⟩
    subst hcs
    have hr : ∀ i, i < len → ∃ cs : List Value, cs.length = s.size ∧ (∀ j, j < s.size → w.cell? (a.add (i * s.size + j)) = cs[j]?) ∧ ∃ y, hasSh s y ∧ RC (pctx O w).pure y cs := by
      intro i hil
      have him : i < m := by rw [hmm]; simp; omega
      obtain ⟨cs', hc, ht'⟩ := hi i him
      rw [hk] at hc
      obtain ⟨_, hlen, hat⟩ := World.cells?_some hc
      obtain ⟨y, y1, y2⟩ := sh_of_trod hO s e n cs' _ hse ht'
      exact ⟨cs', hlen, fun j hj => by rw [← Go.Deep.add_add]; exact hat j hj, y, y1, y2⟩
    obtain ⟨xs, es, h0, h1, h2, h3, h4⟩ := cells_ex rfl hr len (Nat.le_refl _)
    refine ⟨.sl xs, by simp only [hasSh]; exact ⟨xs, rfl, by omega, h3⟩, ?_⟩
    simp only [RC]
    refine ⟨some a, cap, by rw [h0], by omega, hm, ?_⟩
    by_cases hz : len = 0
    · left; exact List.eq_nil_of_length_eq_zero (by omega)
    right
    have hlt : 0 < es.length := by rw [h1]; exact Nat.mul_pos (by omega) hpos
    have hc0 := h4 0 es[0] (List.getElem?_eq_getElem hlt)
    have ha0 : a.add 0 = a := by unfold Addr.add; simp
    rw [ha0] at hc0
    have hsp := World.cell?_spot hc0
    obtain ⟨b, o, sp⟩ := a
    simp only at hsp
    subst hsp
    refine ⟨⟨b, o, none⟩, es, s.size, rfl, ?_, hO _, h2, ⟨rfl, fun j v hv => ?_⟩, fun x hx => hasSh_size s x (h3 x hx)⟩
    · unfold World.cell? at hc0
      show b < w.heap.size
      rcases Nat.lt_or_ge b w.heap.size with hb | hb
      · exact hb
      · simp [Array.getElem?_eq_none hb] at hc0
    · have := h4 j v hv
      rwa [add_none] at this
  | .st ss, t, fuel, cs, x, hs, h => by
    simp only [shB] at hs
    split at hs
    rotate_left
    · cases hs
    rename_i fields ht
    simp only [Bool.and_eq_true, Nat.beq_eq] at hs
    obtain ⟨hc, hss⟩ := hs
    obtain ⟨ys, n, _, _, hl, hyl, hf⟩ := DataW.trod_struct ht h
    obtain ⟨zs, z1, z2⟩ := shs_of_trod hO ss 0 fields.toList n cs hss (by rw [hl, hc]; simp) fun f hf' => by
      obtain ⟨i, hi, rfl⟩ := List.getElem_of_mem hf'
      have h2 := hf i fields.toList[i] (by rw [← Array.getElem?_toList]; exact List.getElem?_eq_getElem hi)
      have hilt : i < ys.length := by rw [hyl]; simpa using hi
      rw [List.getElem?_eq_getElem hilt] at h2
      exact ⟨_, h2⟩
    refine ⟨.st zs, by simp only [hasSh]; exact ⟨zs, rfl, z1⟩, ?_⟩
    rw [RC_st]
    simpa using z2
theorem shs_of_trod (hO : ∀ b, ¬ O b) : ∀ (ss : List Sh) (o : Nat) (fs : List Field) (n : Nat) (cs : List Value), shsB P o ss fs = true → cs.length = o + Sh.sizes ss →
    (∀ f ∈ fs, ∃ y, DataW.trod enc P w base (fun _ => true) held n f.type ((cs.drop f.offset).take (P.cellsOf f.type)) = some y) → ∃ zs, hasShs ss zs ∧ RCs (pctx O w) zs (cs.drop o)
  | [], o, [], n, cs, _, hl, _ => ⟨[], by simp only [hasShs], by simp only [RCs]; exact List.drop_eq_nil_of_le (by rw [hl]; simp [Sh.sizes])⟩
  | [], _, _ :: _, _, _, hs, _, _ => by simp [shsB] at hs
  | _ :: _, _, [], _, _, hs, _, _ => by simp [shsB] at hs
  | s :: ss, o, f :: fs, n, cs, hs, hl, hf => by
    simp only [shsB, Bool.and_eq_true, Nat.beq_eq] at hs
    obtain ⟨⟨⟨h1, h2⟩, h3⟩, h4⟩ := hs
    obtain ⟨y, hy⟩ := hf f (by simp)
    obtain ⟨z, z1, z2⟩ := sh_of_trod hO s f.type n _ y h3 hy
    obtain ⟨zs, z3, z4⟩ := shs_of_trod hO ss (o + s.size) fs n cs h4 (by rw [hl]; simp only [Sh.sizes]; omega) fun f' hf' => hf f' (by simp [hf'])
    refine ⟨z :: zs, by simp only [hasShs]; exact ⟨z1, z3⟩, ?_⟩
    simp only [RCs]
    refine ⟨_, _, ?_, z2, z4⟩
    rw [h1, h2, ← List.drop_drop, List.take_append_drop]
end

/-- An argument, whole. -/
theorem arg_of_trod (hO : ∀ b, ¬ O b) {r : Reach} {b0 : Nat} {s : Sh} {t : TypeId} {v : Value} {d : DataW H} {p : List MemPlace} (hs : shB P s t = true) (hv : Value.okWide P w r b0 t v) (h : DataW.Trod enc P w base (fun _ => true) held t v d p) :
    ∃ y, hasSh s y ∧ RT (pctx O w) y v := by
  obtain ⟨fuel, hf⟩ := h
  obtain ⟨y, h1, h2⟩ := sh_of_trod hO s t fuel _ _ hs hf
  refine ⟨y, h1, ?_⟩
  cases s with
  | int k =>
    simp only [shB] at hs
    split at hs
    · rename_i k' ht
      obtain ⟨n, rfl⟩ := okWide_int ht hv
      simp only [hasSh] at h1
      obtain ⟨m, rfl⟩ := h1
      exact h2
    · cases hs
  | str =>
    simp only [shB] at hs
    split at hs
    · rename_i ht
      obtain ⟨n, rfl⟩ := okWide_string ht hv
      simp only [hasSh] at h1
      obtain ⟨m, rfl, _⟩ := h1
      exact h2
    · cases hs
  | bool =>
    simp only [shB] at hs
    split at hs
    · rename_i ht
      obtain ⟨n, rfl⟩ := okWide_bool ht hv
      simp only [hasSh] at h1
      obtain ⟨m, rfl⟩ := h1
      exact h2
    · cases hs
  | byte =>
    simp only [shB] at hs
    split at hs
    · rename_i k' ht
      obtain ⟨n, rfl⟩ := okWide_int ht hv
      simp only [hasSh] at h1
      obtain ⟨m, rfl, _⟩ := h1
      exact h2
    · cases hs
  | sl s =>
    simp only [shB] at hs
    split at hs
    · rename_i e ht
      obtain ⟨a, l, c, rfl⟩ := okWide_slice ht hv
      simp only [hasSh] at h1
      obtain ⟨m, rfl, _⟩ := h1
      exact h2
    · cases hs
  | st ss =>
    simp only [shB] at hs
    split at hs
    · rename_i fields ht
      obtain ⟨cs, rfl, _⟩ := okWide_struct ht hv
      simp only [hasSh] at h1
      obtain ⟨m, rfl, _⟩ := h1
      exact ⟨cs, rfl, by rw [RC_st] at h2; exact h2⟩
    · cases hs

end
/-- The types of several arguments together. -/
def InBooks (P : Program) (rs : List TypeId) (t : TypeId) : Prop := ∃ r ∈ rs, InBook P r t
theorem kids_books {P : Program} (hl : laidOutB P = true) {rs : List TypeId} (hr : ∀ r ∈ rs, P.readableRec r = true) : Kids P (InBooks P rs) :=
  ⟨fun ⟨r, h, ht⟩ hu => ⟨r, h, (kids_book hl (hr r h)).pointer ht hu⟩, fun ⟨r, h, ht⟩ hu => ⟨r, h, (kids_book hl (hr r h)).slice ht hu⟩,
    fun ⟨r, h, ht⟩ hu => ⟨⟨r, h, ((kids_book hl (hr r h)).array ht hu).1⟩, ((kids_book hl (hr r h)).array ht hu).2⟩,
    fun ⟨r, h, ht⟩ hu => ⟨fun f hf => ⟨r, h, ((kids_book hl (hr r h)).struct ht hu).1 f hf⟩, ((kids_book hl (hr r h)).struct ht hu).2⟩,
    fun ⟨r, h, ht⟩ hu => ⟨r, h, (kids_book hl (hr r h)).map ht hu⟩⟩
theorem books_sized {P : Program} {rs : List TypeId} (hr : ∀ r ∈ rs, P.readableRec r = true) {t e : TypeId} (ht : InBooks P rs t) (hu : P.underlying t = some (.slice e)) : 0 < P.cellsOf e := by
  obtain ⟨r, h, ht⟩ := ht
  exact book_sized (hr r h) ht hu

theorem int_of_sh {k : IntKind} {x : LV} (h : hasSh (.int k) x) : ∃ n : Int, x = .int k n ∧ True := by simp only [hasSh] at h; obtain ⟨n, rfl⟩ := h; exact ⟨n, rfl, trivial⟩
end Go.Lg

