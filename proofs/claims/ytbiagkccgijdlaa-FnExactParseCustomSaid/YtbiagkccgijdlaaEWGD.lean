/- Contracts of functions of the program and of its model, told over readings. -/
import Derived.Test.YtbiagkccgijdlaaEWGC
import Derived.Test.YtbiagkccgijdlaaEWGA
namespace Go.Proofs.Ytbiagkccgijdlaa
open Go.Lg Go.Pm
set_option maxHeartbeats 1600000
set_option maxRecDepth 10000
set_option linter.unusedVariables false
set_option linter.unusedSimpArgs false

/-! ### Customs, children in the order of a custom, heirs below: what they are, without a program -/
structure Cus where
  prefer : Int
  young : Bool
  repr : Bool
def Cus.lv (x : Cus) : LV := .st [.int .i64 x.prefer, .bool x.young, .bool x.repr]
def cusOk (x : Cus) : Bool := leI 0 x.prefer && leI x.prefer 4
def sexG (p : Int) : List (List Int) := match eqI p 1 with
  | true => [[1], [2]]
  | false => match eqI p 2 with
    | true => [[2], [1]]
    | false => match eqI p 3 with
      | true => [[1]]
      | false => match eqI p 4 with
        | true => [[2]]
        | false => [[1, 2]]
def sexD (ps : List Per) (i : Nat) : Int := match ps[i]? with | some x => x.sex | none => 0
def grpQ (ps : List Per) (l : List Int) (p : Int) (i : Nat) : Bool := hasI l (sexD ps i) && chQ ps p i
def turnL (y : Bool) (l : List Nat) : List Nat := match y with | true => l.reverse | false => l
def ordG (ps : List Per) (x : Cus) (p : Int) (l : List Int) : List Nat := turnL x.young (eldL ps (grpQ ps l p) ps.length)
def ordL (ps : List Per) (x : Cus) (p : Int) : List Nat := (sexG x.prefer).flatMap (ordG ps x p)
theorem turnL_len (y : Bool) (l : List Nat) : (turnL y l).length = l.length := by cases y <;> simp [turnL]
theorem turnL_mem {y : Bool} {l : List Nat} {q : Nat} : q ∈ turnL y l ↔ q ∈ l := by cases y <;> simp [turnL]
theorem ordG_len (ps : List Per) (x : Cus) (p : Int) (l : List Int) : (ordG ps x p l).length ≤ ps.length := by unfold ordG; rw [turnL_len]; exact eldL_len _ _ _
theorem eldL_mem {ps : List Per} {q : Nat → Bool} {n i : Nat} : i ∈ eldL ps q n ↔ i < n ∧ q i = true := by
  unfold eldL wantL
  rw [(List.mergeSort_perm _ _).mem_iff, List.mem_filter, List.mem_range]
theorem eldL_pw (ps : List Per) (q : Nat → Bool) (n : Nat) : (eldL ps q n).Pairwise (fun a b => elT ps a b = true) := by rw [← bySt_eld]; exact bySt_pw ps q n
/-- Of those who are in order, some are. -/
theorem eldL_filter (ps : List Per) (a q : Nat → Bool) (n : Nat) : (eldL ps q n).filter a = eldL ps (fun i => a i && q i) n := by
  have h1 : ((eldL ps q n).filter a).Pairwise (fun a b => elT ps a b = true) := (eldL_pw ps q n).sublist List.filter_sublist
  refine List.Perm.eq_of_pairwise (le := fun a b => elT ps a b = true) (fun a b _ _ h k => ?_) h1 (eldL_pw ps _ n) ?_
  · rw [elT_t] at h k; omega
  · refine ((List.mergeSort_perm _ _).filter a).trans ?_
    refine List.Perm.trans ?_ (List.mergeSort_perm _ _).symm
    unfold wantL
    rw [List.filter_filter]
theorem eldL_ext {ps : List Per} {q q' : Nat → Bool} {n : Nat} (h : ∀ i, i < n → q i = q' i) : eldL ps q n = eldL ps q' n := by unfold eldL; rw [wantL_ext h]
theorem chQ_gt {ps : List Per} (hp : parsIn ps) {p i : Nat} (hi : i < ps.length) (h : chQ ps (p : Int) i = true) : p < i := by
  simp only [chQ, List.getElem?_eq_getElem hi, chB, Bool.or_eq_true, eqI_t] at h
  obtain ⟨h1, h2⟩ := hp i hi
  unfold parIn at h1 h2
  omega
theorem ordL_mem {ps : List Per} (hp : parsIn ps) {x : Cus} {p q : Nat} (h : q ∈ ordL ps x (p : Int)) : q < ps.length ∧ p < q ∧ chQ ps (p : Int) q = true := by
  unfold ordL at h
  obtain ⟨l, _, h⟩ := List.mem_flatMap.1 h
  unfold ordG at h
  rw [turnL_mem, eldL_mem] at h
  obtain ⟨h1, h2⟩ := h
  unfold grpQ at h2
  rw [Bool.and_eq_true] at h2
  exact ⟨h1, chQ_gt hp h1 h2.2, h2.2⟩
theorem sexG_len (p : Int) : (sexG p).length ≤ 2 := by
  unfold sexG
  cases eqI p 1 <;> cases eqI p 2 <;> cases eqI p 3 <;> cases eqI p 4 <;> simp
theorem flat_len {α : Type} (g : α → List Nat) (N : Nat) (hg : ∀ a, (g a).length ≤ N) : ∀ l : List α, (l.flatMap g).length ≤ l.length * N
  | [] => by simp
  | a :: l => by
    have := flat_len g N hg l
    have := hg a
    simp only [List.flatMap_cons, List.length_append, List.length_cons, Nat.add_mul]
    omega
def ordTo (ps : List Per) (x : Cus) (p : Int) (k : Nat) : List Nat := ((sexG x.prefer).take k).flatMap (ordG ps x p)
theorem ordTo_len (ps : List Per) (x : Cus) (p : Int) (k : Nat) : (ordTo ps x p k).length ≤ 2 * ps.length := by
  unfold ordTo
  refine Nat.le_trans (flat_len _ ps.length (ordG_len ps x p) _) (Nat.mul_le_mul_right _ ?_)
  have := sexG_len x.prefer
  rw [List.length_take]; omega
theorem ordTo_all (ps : List Per) (x : Cus) (p : Int) : ordTo ps x p (sexG x.prefer).length = ordL ps x p := by unfold ordTo ordL; rw [List.take_length]
theorem ordL_len (ps : List Per) (x : Cus) (p : Int) : (ordL ps x p).length ≤ 2 * ps.length := by rw [← ordTo_all]; exact ordTo_len _ _ _ _
theorem ordTo_succ (ps : List Per) (x : Cus) (p : Int) {k : Nat} (h : k < (sexG x.prefer).length) : ordTo ps x p (k + 1) = ordTo ps x p k ++ ordG ps x p (sexG x.prefer)[k] := by
  unfold ordTo
  rw [List.take_succ_eq_append_getElem h, List.flatMap_append]
  simp

/-! the model's way -/
def sexOf (ps : List Per) (s : Int) (q : Nat) : Bool := notB (notB (eqI s 0) && notB (eqI (sexD ps q) s))
def ofL (ps : List Per) (x : Cus) (l : List Nat) (s : Int) : List Nat := turnL x.young (l.filter (sexOf ps s))
def chlL (ps : List Per) (x : Cus) (p : Int) : List Nat := match eqI x.prefer 1 with
  | true => ofL ps x (eldL ps (chQ ps p) ps.length) 1 ++ ofL ps x (eldL ps (chQ ps p) ps.length) 2
  | false => match eqI x.prefer 2 with
    | true => ofL ps x (eldL ps (chQ ps p) ps.length) 2 ++ ofL ps x (eldL ps (chQ ps p) ps.length) 1
    | false => match eqI x.prefer 3 with
      | true => ofL ps x (eldL ps (chQ ps p) ps.length) 1
      | false => match eqI x.prefer 4 with
        | true => ofL ps x (eldL ps (chQ ps p) ps.length) 2
        | false => ofL ps x (eldL ps (chQ ps p) ps.length) 0
theorem sexD_ok {ps : List Per} {us : List Uni} (h : famOk ps us = true) {i : Nat} (hi : i < ps.length) : sexD ps i = 1 ∨ sexD ps i = 2 := by
  obtain ⟨_, _, hp, _, _⟩ := famOk_parts h
  obtain ⟨_, _, h1, _⟩ := personOk_spec (personsTo_get hp hi hi)
  simp only [sexD, List.getElem?_eq_getElem hi]
  exact h1
theorem ofL_one {ps : List Per} {us : List Uni} (h : famOk ps us = true) (x : Cus) (p : Int) (l : List Int) (s : Int) (e : ∀ i, i < ps.length → hasI l (sexD ps i) = sexOf ps s i) :
    ordG ps x p l = ofL ps x (eldL ps (chQ ps p) ps.length) s := by
  unfold ordG ofL
  rw [eldL_filter]
  congr 1
  refine eldL_ext fun i hi => ?_
  unfold grpQ
  rw [e i hi]
theorem chl_ord {ps : List Per} {us : List Uni} (h : famOk ps us = true) (x : Cus) (p : Int) : chlL ps x p = ordL ps x p := by
  have e0 : ∀ i, i < ps.length → hasI [1, 2] (sexD ps i) = sexOf ps 0 i := fun i hi => by
    rcases sexD_ok h hi with e | e <;> (unfold sexOf; rw [e]; simp [hasI, notB_d, eqI_d])
  have e1 : ∀ i, i < ps.length → hasI [1] (sexD ps i) = sexOf ps 1 i := fun i hi => by
    rcases sexD_ok h hi with e | e <;> (unfold sexOf; rw [e]; simp [hasI, notB_d, eqI_d])
  have e2 : ∀ i, i < ps.length → hasI [2] (sexD ps i) = sexOf ps 2 i := fun i hi => by
    rcases sexD_ok h hi with e | e <;> (unfold sexOf; rw [e]; simp [hasI, notB_d, eqI_d])
  unfold chlL ordL sexG
  cases eqI x.prefer 1
  · cases eqI x.prefer 2
    · cases eqI x.prefer 3
      · cases eqI x.prefer 4 <;> simp [ofL_one h x p _ _ e0, ofL_one h x p _ _ e2]
      · simp [ofL_one h x p _ _ e1]
    · simp [ofL_one h x p _ _ e1, ofL_one h x p _ _ e2]
  · simp [ofL_one h x p _ _ e1, ofL_one h x p _ _ e2]

/-! ### Who is alive, and the heirs below, those of the first places first -/
def aliveB (q : Per) (y : Int) : Bool := leI q.born y && (eqI q.died (-1) || ltI y q.died)
def alv (ps : List Per) (y : Int) (i : Nat) : Bool := match ps[i]? with | some q => aliveB q y | none => false
/-- All heirs below, as often as there are ways down. -/
def desL (ps : List Per) (x : Cus) (y : Int) : Nat → Nat → List Nat
  | 0, _ => []
  | d + 1, p => (ordL ps x (p : Int)).flatMap fun c => (match alv ps y c with | true => [c] | false => []) ++ (match alv ps y c || x.repr with | true => desL ps x y d c | false => [])
theorem flat_congr {α β : Type} {f g : α → List β} : ∀ (l : List α), (∀ a ∈ l, f a = g a) → l.flatMap f = l.flatMap g
  | [], _ => rfl
  | a :: l, h => by
    rw [List.flatMap_cons, List.flatMap_cons, h a (by simp), flat_congr l fun b hb => h b (by simp [hb])]
theorem desL_fuel {ps : List Per} (hp : parsIn ps) (x : Cus) (y : Int) : ∀ (d d' p : Nat), ps.length ≤ p + d → ps.length ≤ p + d' → desL ps x y d p = desL ps x y d' p
  | 0, d', p, h, h' => by
    have e : ordL ps x (p : Int) = [] := List.eq_nil_iff_forall_not_mem.2 fun q hq => by have := ordL_mem hp hq; omega
    cases d' with
    | zero => rfl
    | succ d' => simp [desL, e]
  | d + 1, 0, p, h, h' => by
    have e : ordL ps x (p : Int) = [] := List.eq_nil_iff_forall_not_mem.2 fun q hq => by have := ordL_mem hp hq; omega
    simp [desL, e]
  | d + 1, d' + 1, p, h, h' => by
    unfold desL
    refine flat_congr _ fun c hc => ?_
    have := ordL_mem hp hc
    rw [desL_fuel hp x y d d' c (by omega) (by omega)]
def desN (ps : List Per) (x : Cus) (y : Int) (p : Nat) : List Nat := desL ps x y ps.length p
def ownN (ps : List Per) (y : Int) (c : Nat) : List Nat := match alv ps y c with | true => [c] | false => []
def brN (ps : List Per) (x : Cus) (y : Int) (c : Nat) : List Nat := ownN ps y c ++ (match alv ps y c || x.repr with | true => desN ps x y c | false => [])
theorem desN_eq {ps : List Per} (hp : parsIn ps) (x : Cus) (y : Int) (p : Nat) : desN ps x y p = (ordL ps x (p : Int)).flatMap (brN ps x y) := by
  rw [show desN ps x y p = desL ps x y (ps.length + 1) p from desL_fuel hp x y _ _ _ (by omega) (by omega)]
  unfold desL brN ownN desN
  rfl
theorem desN_mem {ps : List Per} (hp : parsIn ps) (x : Cus) (y : Int) : ∀ (d p : Nat), ps.length ≤ p + d → ∀ q ∈ desN ps x y p, p < q ∧ q < ps.length ∧ alv ps y q = true
  | 0, p, h, q, hq => by
    rw [desN_eq hp] at hq
    obtain ⟨c, hc, _⟩ := List.mem_flatMap.1 hq
    have := ordL_mem hp hc; omega
  | d + 1, p, h, q, hq => by
    rw [desN_eq hp] at hq
    obtain ⟨c, hc, hq⟩ := List.mem_flatMap.1 hq
    have hc' := ordL_mem hp hc
    unfold brN ownN at hq
    rcases List.mem_append.1 hq with hq | hq
    · cases e : alv ps y c <;> rw [e] at hq
      · simp at hq
      · simp at hq; subst hq; exact ⟨hc'.2.1, hc'.1, e⟩
    · cases e : alv ps y c || x.repr <;> rw [e] at hq
      · simp at hq
      · obtain ⟨h1, h2, h3⟩ := desN_mem hp x y d c (by omega) q hq
        exact ⟨by omega, h2, h3⟩

/-! ### One after the other, nobody twice -/
def stpO (I : Nat → Bool) (out : List Nat) (c : Nat) : List Nat := match I c || out.contains c with | true => out | false => out ++ [c]
def fldO (I : Nat → Bool) (out l : List Nat) : List Nat := l.foldl (stpO I) out
theorem fldO_app (I : Nat → Bool) (out l m : List Nat) : fldO I out (l ++ m) = fldO I (fldO I out l) m := by unfold fldO; rw [List.foldl_append]
theorem fldO_sub (I : Nat → Bool) : ∀ (l out : List Nat) (q : Nat), q ∈ out → q ∈ fldO I out l
  | [], out, q, h => h
  | c :: l, out, q, h => by
    show q ∈ fldO I (stpO I out c) l
    refine fldO_sub I l _ q ?_
    unfold stpO
    split
    · exact h
    · exact List.mem_append_left _ h
theorem fldO_in (I : Nat → Bool) : ∀ (l out : List Nat) (q : Nat), q ∈ l → I q = true ∨ q ∈ fldO I out l
  | [], out, q, h => by simp at h
  | c :: l, out, q, h => by
    rcases List.mem_cons.1 h with rfl | h
    · by_cases hI : I q = true
      · exact .inl hI
      · refine .inr (fldO_sub I l _ q ?_)
        unfold stpO
        split
        · rename_i e
          rw [Bool.or_eq_true] at e
          rcases e with e | e
          · exact absurd e hI
          · simpa using e
        · simp
    · exact fldO_in I l _ q h
theorem fldO_mem (I : Nat → Bool) : ∀ (l out : List Nat) (q : Nat), q ∈ fldO I out l → q ∈ out ∨ (q ∈ l ∧ I q = false)
  | [], out, q, h => .inl h
  | c :: l, out, q, h => by
    rcases fldO_mem I l (stpO I out c) q h with h | ⟨h, h2⟩
    · unfold stpO at h
      split at h
      · exact .inl h
      · rename_i e
        rcases List.mem_append.1 h with h | h
        · exact .inl h
        · simp at h; subst h
          rw [Bool.or_eq_false_iff] at e
          exact .inr ⟨by simp, e.1⟩
    · exact .inr ⟨by simp [h], h2⟩
theorem fldO_id (I : Nat → Bool) : ∀ (l out : List Nat), (∀ q ∈ l, I q = true ∨ q ∈ out) → fldO I out l = out
  | [], out, _ => rfl
  | c :: l, out, h => by
    have e : stpO I out c = out := by
      unfold stpO
      rcases h c (by simp) with e | e
      · simp [e]
      · simp [e]
    show fldO I (stpO I out c) l = out
    rw [e]
    exact fldO_id I l out fun q hq => h q (by simp [hq])
theorem stpO_nodup {I : Nat → Bool} {out : List Nat} {c : Nat} (h : out.Nodup) : (stpO I out c).Nodup := by
  unfold stpO
  split
  · exact h
  · rename_i e
    rw [Bool.or_eq_false_iff] at e
    rw [List.nodup_append]
    refine ⟨h, by simp, fun a ha b hb => ?_⟩
    simp at hb; subst hb
    intro e2; subst e2
    simp [ha] at e
theorem fldO_nodup (I : Nat → Bool) : ∀ (l out : List Nat), out.Nodup → (fldO I out l).Nodup
  | [], out, h => h
  | c :: l, out, h => fldO_nodup I l _ (stpO_nodup h)

/-! ### The program's way: who is met is not met again -/
def insP (M : Nat → Bool) (c : Nat) : Nat → Bool := fun i => if i = c then true else M i
def stpI (ps : List Per) (x : Cus) (y : Int) (rec : Nat → (Nat → Bool) × List Nat → (Nat → Bool) × List Nat) (S : (Nat → Bool) × List Nat) (c : Nat) : (Nat → Bool) × List Nat :=
  match S.1 c || (notB (alv ps y c) && notB x.repr) with
  | true => S
  | false => rec c (insP S.1 c, match alv ps y c with | true => S.2 ++ [c] | false => S.2)
def addI (ps : List Per) (x : Cus) (y : Int) : Nat → Nat → (Nat → Bool) × List Nat → (Nat → Bool) × List Nat
  | 0, _, S => S
  | d + 1, p, S => (ordL ps x (p : Int)).foldl (stpI ps x y (addI ps x y d)) S
def clo (ps : List Per) (x : Cus) (y : Int) (I : Nat → Bool) (out : List Nat) (m : Nat) : Prop := ∀ q ∈ brN ps x y m, I q = true ∨ q ∈ out
structure Ok (ps : List Per) (I : Nat → Bool) (S : (Nat → Bool) × List Nat) : Prop where
  i : ∀ q, I q = true → S.1 q = true
  o : ∀ q ∈ S.2, S.1 q = true
  nd : S.2.Nodup
  lt : ∀ q ∈ S.2, q < ps.length
theorem clo_mono {ps : List Per} {x : Cus} {y : Int} {I : Nat → Bool} {out l : List Nat} {m : Nat} (h : clo ps x y I out m) : clo ps x y I (fldO I out l) m := fun q hq => by
  rcases h q hq with h | h
  · exact .inl h
  · exact .inr (fldO_sub I l out q h)
theorem nodup_lt : ∀ (n : Nat) (l : List Nat), l.Nodup → (∀ q ∈ l, q < n) → l.length ≤ n := fun n l h k => by
  have := pigeon n (l.map fun q : Nat => (q : Int)) (by
    unfold List.Nodup at h ⊢
    rw [List.pairwise_map]
    exact h.imp fun e e2 => e (by omega)) fun x hx => by
    obtain ⟨q, hq, rfl⟩ := List.mem_map.1 hx
    have := k q hq
    omega
  simpa using this
theorem Ok.len {ps : List Per} {I : Nat → Bool} {S : (Nat → Bool) × List Nat} (h : Ok ps I S) : S.2.length ≤ ps.length := nodup_lt _ _ h.nd h.lt
structure Went (ps : List Per) (x : Cus) (y : Int) (I : Nat → Bool) (p : Nat) (S : (Nat → Bool) × List Nat) (l : List Nat) (R : (Nat → Bool) × List Nat) : Prop where
  ok : Ok ps I R
  out : R.2 = fldO I S.2 l
  keep : ∀ m, S.1 m = true → R.1 m = true
  new : ∀ m, R.1 m = true → S.1 m = true ∨ p < m
  cl : ∀ m, R.1 m = true → p < m → clo ps x y I R.2 m
theorem Went.refl {ps : List Per} {x : Cus} {y : Int} {I : Nat → Bool} {p : Nat} {S : (Nat → Bool) × List Nat} {l : List Nat} (ok : Ok ps I S) (hc : ∀ m, S.1 m = true → p < m → clo ps x y I S.2 m) (hl : ∀ q ∈ l, I q = true ∨ q ∈ S.2) : Went ps x y I p S l S :=
  ⟨ok, (fldO_id I l S.2 hl).symm, fun _ h => h, fun _ h => .inl h, hc⟩
theorem Went.trans {ps : List Per} {x : Cus} {y : Int} {I : Nat → Bool} {p : Nat} {S R Q : (Nat → Bool) × List Nat} {l m : List Nat} (h : Went ps x y I p S l R) (k : Went ps x y I p R m Q) : Went ps x y I p S (l ++ m) Q :=
  ⟨k.ok, by rw [k.out, h.out, fldO_app], fun q hq => k.keep q (h.keep q hq), fun q hq => by
    rcases k.new q hq with e | e
    · exact h.new q e
    · exact .inr e, k.cl⟩
theorem stpI_ok {ps : List Per} {x : Cus} {y : Int} {I : Nat → Bool} {p : Nat} {rec : Nat → (Nat → Bool) × List Nat → (Nat → Bool) × List Nat} {c : Nat} (hpc : p < c) (hc : c < ps.length)
    (IH : ∀ S, Ok ps I S → (∀ m, S.1 m = true → c < m → clo ps x y I S.2 m) → Went ps x y I c S (desN ps x y c) (rec c S)) {S : (Nat → Bool) × List Nat} (ok : Ok ps I S) (hS : ∀ m, S.1 m = true → p < m → clo ps x y I S.2 m) :
    Went ps x y I p S (brN ps x y c) (stpI ps x y rec S c) := by
  unfold stpI
  cases h1 : S.1 c
  · cases h2 : (notB (alv ps y c) && notB x.repr)
    · simp only [Bool.or_self]
      have hI : I c = false := by
        cases e : I c
        · rfl
        · rw [ok.i c e] at h1; cases h1
      have hO : c ∉ S.2 := fun e => by rw [ok.o c e] at h1; cases h1
      have hown : (match alv ps y c with | true => S.2 ++ [c] | false => S.2) = fldO I S.2 (ownN ps y c) := by
        unfold ownN fldO
        cases alv ps y c
        · rfl
        · show _ = stpO I S.2 c
          unfold stpO
          rw [hI]
          simp [hO]
      have hor : (alv ps y c || x.repr) = true := by
        cases e1 : alv ps y c <;> cases e2 : x.repr <;> simp [e1, e2, notB] at h2 ⊢
      have hbr : brN ps x y c = ownN ps y c ++ desN ps x y c := by unfold brN; rw [hor]
      rw [hown]
      have ok1 : Ok ps I (insP S.1 c, fldO I S.2 (ownN ps y c)) := by
        have hin : ∀ q ∈ fldO I S.2 (ownN ps y c), q ∈ S.2 ∨ q = c := fun q hq => by
          rcases fldO_mem I _ _ q hq with h | ⟨h, _⟩
          · exact .inl h
          · unfold ownN at h
            split at h <;> simp at h
            exact .inr h
        refine ⟨fun q hq => ?_, fun q hq => ?_, fldO_nodup I _ _ ok.nd, fun q hq => ?_⟩
        · simp only [insP]; split
          · rfl
          · exact ok.i q hq
        · simp only [insP]; split
          · rfl
          · rename_i e; rcases hin q hq with h | h
            · exact ok.o q h
            · exact absurd h e
        · rcases hin q hq with h | h
          · exact ok.lt q h
          · subst h; exact hc
      have r := IH _ ok1 fun m hm hcm => by
        simp only [insP] at hm
        rw [if_neg (by omega)] at hm
        exact clo_mono (hS m hm (by omega))
      have rout : (rec c (insP S.1 c, fldO I S.2 (ownN ps y c))).2 = fldO I S.2 (brN ps x y c) := by rw [r.out, hbr, fldO_app]
      refine ⟨r.ok, rout, fun m hm => r.keep m ?_, fun m hm => ?_, fun m hm hpm => ?_⟩
      · simp only [insP]; split
        · rfl
        · exact hm
      · rcases r.new m hm with e | e
        · simp only [insP] at e
          split at e
          · rename_i e2; subst e2; exact .inr hpc
          · exact .inl e
        · exact .inr (by omega)
      · by_cases hcm : c < m
        · exact r.cl m hm hcm
        · rw [rout]
          by_cases e : m = c
          · subst e
            exact fun q hq => fldO_in I _ _ q hq
          · rcases r.new m hm with e2 | e2
            · simp only [insP] at e2
              rw [if_neg e] at e2
              exact clo_mono (hS m e2 hpm)
            · omega
    · simp only [Bool.or_true]
      refine Went.refl ok hS fun q hq => ?_
      have : brN ps x y c = [] := by
        unfold brN ownN
        cases e1 : alv ps y c <;> cases e2 : x.repr <;> simp [e1, e2, notB] at h2 ⊢
      rw [this] at hq
      simp at hq
  · simp only [Bool.true_or]
    exact Went.refl ok hS (hS c h1 hpc)
theorem addI_ok {ps : List Per} (hp : parsIn ps) (x : Cus) (y : Int) (I : Nat → Bool) : ∀ (d p : Nat), ps.length ≤ p + d → ∀ S : (Nat → Bool) × List Nat, Ok ps I S → (∀ m, S.1 m = true → p < m → clo ps x y I S.2 m) →
    Went ps x y I p S (desN ps x y p) (addI ps x y d p S)
  | 0, p, h, S, ok, hc => by
    have e : ordL ps x (p : Int) = [] := List.eq_nil_iff_forall_not_mem.2 fun q hq => by have := ordL_mem hp hq; omega
    refine Went.refl ok hc fun q hq => ?_
    rw [desN_eq hp, e] at hq
    simp at hq
  | d + 1, p, h, S, ok, hc => by
    rw [desN_eq hp]
    unfold addI
    have hL : ∀ c ∈ ordL ps x (p : Int), p < c ∧ c < ps.length := fun c hc => ⟨(ordL_mem hp hc).2.1, (ordL_mem hp hc).1⟩
    generalize ordL ps x (p : Int) = L at hL
    induction L generalizing S with
    | nil => exact Went.refl ok hc fun q hq => by simp at hq
    | cons c L ih =>
      obtain ⟨h1, h2⟩ := hL c (by simp)
      have r := stpI_ok (rec := addI ps x y d) h1 h2 (fun S' ok' hS' => addI_ok hp x y I d c (by omega) S' ok' hS') ok hc
      rw [List.flatMap_cons, List.foldl_cons]
      exact r.trans (ih _ r.ok r.cl fun c' hc' => hL c' (by simp [hc']))
end Go.Proofs.Ytbiagkccgijdlaa


namespace Go.Proofs.Ytbiagkccgijdlaa
open Go.Lg Go.Pm
set_option maxHeartbeats 1600000
set_option maxRecDepth 10000
set_option linter.unusedVariables false
set_option linter.unusedSimpArgs false

/-! ### Customs -/
def prefL : List LV := [.str ⟨#[97, 110, 121]⟩, .str ⟨#[109, 101, 110]⟩, .str ⟨#[119, 111, 109, 101, 110]⟩, .str ⟨#[111, 110, 108, 121, 32, 109, 101, 110]⟩, .str ⟨#[111, 110, 108, 121, 32, 119, 111, 109, 101, 110]⟩]
theorem words_spec : FSpec env.P 52 [] (.own 9 1 prefL) := by
  refine FSpec_of_code env_ok (fn := Try.f52) Try.func52 rfl Try.call52 _ _ ?_
  ((repeat ((conv => whnf); first | refine brT ?_ | refine brF ?_)); conv => whnf)
  exact ⟨rfl, rfl, rfl, rfl, by simp⟩
theorem cus_spec (x : Cus) : FSpec env.P 12 [x.lv] (.bool (cusOk x)) := by
  have h := l1In_spec x.prefer 0 4
  unfold cusOk
  obtain ⟨p, y, r⟩ := x
  refine FSpec_of_code env_ok (fn := Try.f12) Try.func12 rfl Try.call12 _ _ ?_
  ((repeat ((conv => whnf); first | refine brT ?_ | refine brF ?_)); conv => whnf)
  refine ⟨_, h, ?_⟩
  ((repeat ((conv => whnf); first | refine brT ?_ | refine brF ?_)); conv => whnf)
  exact fin rfl
theorem cus_bel (x : Cus) : belI x.prefer ((5 : Nat) : Int) = cusOk x := by
  unfold belI cusOk
  congr 1
  rw [Bool.eq_iff_iff, ltI_t, leI_t]
  omega
theorem cus_impl (x : Cus) : FSpec env.P 14 [x.lv] (.bool (cusOk x)) := by
  have h := isBelow_spec x.prefer 5
  rw [← cus_bel]
  obtain ⟨p, y, r⟩ := x
  refine FSpec_of_code env_ok (fn := Try.f14) Try.func14 rfl Try.call14 _ _ ?_
  ((repeat ((conv => whnf); first | refine brT ?_ | refine brF ?_)); conv => whnf)
  refine ⟨true, by kernel_rfl, ?_⟩
  ((repeat ((conv => whnf); first | refine brT ?_ | refine brF ?_)); conv => whnf)
  refine ⟨_, words_spec, ?_⟩
  ((repeat ((conv => whnf); first | refine brT ?_ | refine brF ?_)); conv => whnf)
  intro _
  ((repeat ((conv => whnf); first | refine brT ?_ | refine brF ?_)); conv => whnf)
  refine ⟨_, h, ?_⟩
  ((repeat ((conv => whnf); first | refine brT ?_ | refine brF ?_)); conv => whnf)
  exact fin rfl
theorem toCus_spec (x : Cus) : FSpec env.P 13 [x.lv] x.lv := by
  obtain ⟨p, y, r⟩ := x
  refine FSpec_of_code env_ok (fn := Try.f13) Try.func13 rfl Try.call13 _ _ ?_
  ((repeat ((conv => whnf); first | refine brT ?_ | refine brF ?_)); conv => whnf)
  refine ⟨_, rfl, rfl, ?_⟩
  simp [Cus.lv, exW, exsW]
abbrev shCus : Sh := .st [.int .i64, .bool, .bool]
theorem cus_of_sh {x : LV} (h : hasSh shCus x) : ∃ l : Cus, x = l.lv ∧ True := by
  simp only [hasSh] at h
  obtain ⟨xs, rfl, h⟩ := h
  match xs, h with
  | [a, b, c], h =>
    simp only [hasShs, hasSh] at h
    obtain ⟨⟨a, rfl⟩, ⟨b, rfl⟩, ⟨c, rfl⟩, _⟩ := h
    exact ⟨⟨a, b, c⟩, rfl, trivial⟩
  | [], h => simp [hasShs] at h
  | [_], h => simp [hasShs] at h
  | [_, _], h => simp [hasShs] at h
  | _ :: _ :: _ :: _ :: _, h => simp [hasShs] at h
/-! ### Customs as words -/
def prefW (p : Int) : ByteArray := match prefL[p.toNat]? with | some (.str s) => s | _ => ⟨#[]⟩
@[reducible] def youngW : ByteArray := ⟨#[32, 121, 111, 117, 110, 103, 101, 115, 116]⟩
@[reducible] def reprW : ByteArray := ⟨#[32, 114, 101, 112, 114, 101, 115, 101, 110, 116]⟩
def fmtC (x : Cus) : ByteArray := match cusOk x with
  | false => ⟨#[]⟩
  | true => match x.young, x.repr with
    | false, false => prefW x.prefer
    | true, false => prefW x.prefer ++ youngW
    | false, true => prefW x.prefer ++ reprW
    | true, true => (prefW x.prefer ++ youngW) ++ reprW
theorem pref_get {x : Cus} (h : cusOk x = true) : prefL[x.prefer.toNat]? = some (.str (prefW x.prefer)) ∧ x.prefer = (x.prefer.toNat : Int) := by
  unfold cusOk at h
  rw [Bool.and_eq_true, leI_t, leI_t] at h
  have : x.prefer = 0 ∨ x.prefer = 1 ∨ x.prefer = 2 ∨ x.prefer = 3 ∨ x.prefer = 4 := by omega
  refine ⟨?_, by omega⟩
  rcases this with e | e | e | e | e <;> (rw [e]; rfl)
theorem pref_len (p : Int) : (prefW p).size ≤ 10 := by
  unfold prefW
  split
  · rename_i s h
    have := List.mem_of_getElem? h
    simp [prefL] at this
    rcases this with rfl | rfl | rfl | rfl | rfl <;> decide
  · decide
theorem fmt_spec (x : Cus) : FSpec env.P 15 [x.lv] (.str (fmtC x)) := by
  have h := cus_spec x
  have hl := pref_len x.prefer
  refine FSpec_of_code env_ok (fn := Try.f15) Try.func15 rfl Try.call15 _ _ ?_
  unfold fmtC
  cases hc : cusOk x
  · rw [hc] at h
    obtain ⟨p, y, r⟩ := x
    ((repeat ((conv => whnf); first | refine brT ?_ | refine brF ?_)); conv => whnf)
    refine ⟨_, h, ?_⟩
    ((repeat ((conv => whnf); first | refine brT ?_ | refine brF ?_)); conv => whnf)
    rw [show notB false = true by simp [notB]]
    ((repeat ((conv => whnf); first | refine brT ?_ | refine brF ?_)); conv => whnf)
    exact fin rfl
  · rw [hc] at h
    obtain ⟨g1, g2⟩ := pref_get hc
    obtain ⟨p, y, r⟩ := x
    simp only at g1 g2 hl
    ((repeat ((conv => whnf); first | refine brT ?_ | refine brF ?_)); conv => whnf)
    refine ⟨_, h, ?_⟩
    ((repeat ((conv => whnf); first | refine brT ?_ | refine brF ?_)); conv => whnf)
    rw [show notB true = false by simp [notB]]
    ((repeat ((conv => whnf); first | refine brT ?_ | refine brF ?_)); conv => whnf)
    refine ⟨rfl, rfl, p.toNat, g2, by have := (List.getElem?_eq_some_iff.1 g1).1; exact this, ?_⟩
    ((repeat ((conv => whnf); first | refine brT ?_ | refine brF ?_)); conv => whnf)
    refine ⟨rfl, by simp, .str (prefW p), by show (match prefL[p.toNat]? with | some x => getP x [] | none => none) = _; rw [g1]; rfl, rfl, ?_⟩
    cases y <;> cases r
    · ((repeat ((conv => whnf); first | refine brT ?_ | refine brF ?_)); conv => whnf)
      exact fin rfl
    · ((repeat ((conv => whnf); first | refine brT ?_ | refine brF ?_)); conv => whnf)
      refine ⟨by show (prefW p).size + 10 ≤ _; unfold Go.maxLen; omega, ?_⟩
      ((repeat ((conv => whnf); first | refine brT ?_ | refine brF ?_)); conv => whnf)
      exact fin rfl
    · ((repeat ((conv => whnf); first | refine brT ?_ | refine brF ?_)); conv => whnf)
      refine ⟨by show (prefW p).size + 9 ≤ _; unfold Go.maxLen; omega, ?_⟩
      ((repeat ((conv => whnf); first | refine brT ?_ | refine brF ?_)); conv => whnf)
      exact fin rfl
    · ((repeat ((conv => whnf); first | refine brT ?_ | refine brF ?_)); conv => whnf)
      refine ⟨by show (prefW p).size + 9 ≤ _; unfold Go.maxLen; omega, ?_⟩
      ((repeat ((conv => whnf); first | refine brT ?_ | refine brF ?_)); conv => whnf)
      refine ⟨by rw [ByteArray.size_append]; show (prefW p).size + 9 + 10 ≤ _; unfold Go.maxLen; omega, ?_⟩
      ((repeat ((conv => whnf); first | refine brT ?_ | refine brF ?_)); conv => whnf)
      exact fin rfl
end Go.Proofs.Ytbiagkccgijdlaa


namespace Go.Proofs.Ytbiagkccgijdlaa
open Go.Lg Go.Pm
set_option maxHeartbeats 3200000
set_option maxRecDepth 10000
set_option linter.unusedVariables false
set_option linter.unusedSimpArgs false

/-! ### Reversed in place -/
/-- After k rounds: the outer k are swapped. -/
def rvD (xs : List Nat) (k i : Nat) : Nat := match decide (i < k) || decide (xs.length ≤ i + k) with | true => xs.getD (xs.length - 1 - i) 0 | false => xs.getD i 0
def rvTo (xs : List Nat) (k : Nat) : List Nat := (List.range xs.length).map (rvD xs k)
theorem rvTo_len (xs : List Nat) (k : Nat) : (rvTo xs k).length = xs.length := by simp [rvTo]
theorem rvTo_zero (xs : List Nat) : rvTo xs 0 = xs := by
  apply List.ext_getElem (by simp [rvTo])
  intro i h1 h2
  have : ¬ xs.length ≤ i := by omega
  simp [rvTo, rvD, this, h2]
theorem rvTo_end (xs : List Nat) {k : Nat} (h : xs.length ≤ k + k + 1) : rvTo xs k = xs.reverse := by
  apply List.ext_getElem (by simp [rvTo])
  intro i h1 h2
  have hi : i < xs.length := by simpa using h2
  rw [List.getElem_reverse]
  simp only [rvTo, List.getElem_map, List.getElem_range, rvD]
  split
  · rw [List.getD_eq_getElem?_getD, List.getElem?_eq_getElem (by omega)]; rfl
  · rename_i e
    rw [Bool.or_eq_false_iff, decide_eq_false_iff_not, decide_eq_false_iff_not] at e
    have : i = xs.length - 1 - i := by omega
    rw [List.getD_eq_getElem?_getD, List.getElem?_eq_getElem (by omega)]
    simp only [Option.getD_some]
    congr 1
theorem rvTo_get {xs : List Nat} {k i : Nat} (h : i < xs.length) : (rvTo xs k)[i]? = some (rvD xs k i) := by simp [rvTo, h]
theorem rvTo_swap {xs : List Nat} {k : Nat} (h : k + k + 1 < xs.length) :
    ((rvTo xs k).set k (rvD xs k (xs.length - 1 - k))).set (xs.length - 1 - k) (rvD xs k k) = rvTo xs (k + 1) := by
  apply List.ext_getElem (by simp [rvTo])
  intro i h1 h2
  have hi : i < xs.length := by simpa [rvTo] using h2
  rw [List.getElem_set, List.getElem_set]
  simp only [rvTo, List.getElem_map, List.getElem_range]
  by_cases e1 : xs.length - 1 - k = i
  · subst e1
    simp only [if_true, rvD]
    have a1 : ¬ k < k := by omega
    have a2 : ¬ xs.length ≤ k + k := by omega
    have a3 : xs.length ≤ xs.length - 1 - k + (k + 1) := by omega
    have a4 : xs.length - 1 - (xs.length - 1 - k) = k := by omega
    simp [a1, a2, a3, a4]
  · rw [if_neg e1]
    by_cases e2 : k = i
    · subst e2
      simp only [if_true, rvD]
      have b1 : ¬ xs.length - 1 - k < k := by omega
      have b2 : ¬ xs.length ≤ xs.length - 1 - k + k := by omega
      simp [b1, b2]
    · rw [if_neg e2]
      unfold rvD
      have c1 : (decide (i < k) || decide (xs.length ≤ i + k)) = (decide (i < k + 1) || decide (xs.length ≤ i + (k + 1))) := by
        rw [Bool.eq_iff_iff, Bool.or_eq_true, Bool.or_eq_true, decide_eq_true_eq, decide_eq_true_eq, decide_eq_true_eq, decide_eq_true_eq]
        omega
      rw [c1]
theorem set_nat {xs : List Nat} {i x : Nat} : (xs.map natLV).set i (.int .i64 (x : Int)) = (xs.set i x).map natLV := by
  rw [List.map_set]; rfl
theorem getP1 {xs : List LV} {i : Nat} {x : LV} (h : xs[i]? = some x) : getP (.st xs) [i] = some x := by
  show (match xs[i]? with | some x => getP x [] | none => none) = _
  rw [h]
  cases x <;> rfl
theorem reverse_h (xs : List Nat) (hl : xs.length ≤ 1048576) :
    HSpec env.P 97 [.hs 0 (xs.map natLV).length] [.arr 3 1 (xs.map natLV)] (.tup []) [.arr 3 1 (xs.reverse.map natLV)] := by
  refine HSpec_of_code (E := env.x [] 1) env_ok.x (fn := Try.f97) Try.func97 rfl Try.call97 _ _ _ _ ?_
  have hX := nats_len xs
  have hw : IntKind.i64.wrap ((xs.length : Int) - 1) = (xs.length : Int) - 1 := wrap64 (by omega) (by omega)
  rw [hX]
  ((repeat ((conv => whnf); first | refine brT ?_ | refine brF ?_)); conv => whnf)
  refine ⟨hX.symm, fun _ => ?_⟩
  rw [hX]
  ((repeat ((conv => whnf); first | refine brT ?_ | refine brF ?_)); conv => whnf)
  rw [hw]
  ((repeat ((conv => whnf); first | refine brT ?_ | refine brF ?_)); conv => whnf)
  refine loop_ruleR (α := Nat) [.old 0] (fun k => [(2, .int .i64 (k : Int)), (3, .int .i64 ((xs.length : Int) - 1 - (k : Int)))]) (fun k => [.arr 3 1 ((rvTo xs k).map natLV)]) (fun k => xs.length - k) (fun k => k + k ≤ xs.length) 0 (by omega) ?_ ?_
  · refine ⟨?_, ⟨rfl, congrArg (fun l : List Nat => Blk.arr 3 1 (l.map natLV)) (rvTo_zero xs).symm, trivial⟩, rfl⟩
    have e0 : LV.int .i64 ((xs.length : Int) - 1) = .int .i64 ((xs.length : Int) - 1 - ((0 : Nat) : Int)) := by simp
    repeat ((conv => whnf); first | refine ⟨rfl, e0, ?_⟩ | refine ⟨rfl, rfl, ?_⟩)
    trivial
  intro k hk
  generalize hK : kk _ = KK
  ((repeat ((conv => whnf); first | refine brT ?_ | refine brF ?_)); conv => whnf)
  (refine ⟨fun g1 => ?_, fun g1 => ?_⟩ <;> rw [g1])
  · have h2 : k + k + 1 < xs.length := by rw [ltI_t] at g1; omega
    ((repeat ((conv => whnf); first | refine brT ?_ | refine brF ?_)); conv => whnf)
    refine ⟨false, 0, 0, 4, [2, 3, 0, 1, 4, 5, 6, 7, 8, 9, 10, 11], (.one 12 (.one 13 (.one 14 (.one 15 .done)))), by kernel_rfl, by kernel_rfl, ?_⟩
    have hLk : ((rvTo xs k).map natLV).length = xs.length := by rw [List.length_map, rvTo_len]
    have gj : ((rvTo xs k).map natLV)[xs.length - 1 - k]? = some (.int .i64 ((rvD xs k (xs.length - 1 - k) : Nat) : Int)) := by rw [List.getElem?_map, rvTo_get (by omega)]; rfl
    have gk : ((rvTo xs k).map natLV)[k]? = some (.int .i64 ((rvD xs k k : Nat) : Int)) := by rw [List.getElem?_map, rvTo_get (by omega)]; rfl
    ((repeat ((conv => whnf); first | refine brT ?_ | refine brF ?_)); conv => whnf)
    refine ⟨hLk.symm, rfl, xs.length - 1 - k, by omega, by omega, ?_⟩
    ((repeat ((conv => whnf); first | refine brT ?_ | refine brF ?_)); conv => whnf)
    refine ⟨hLk.symm, by simp, _, getP1 gj, rfl, ?_⟩
    ((repeat ((conv => whnf); first | refine brT ?_ | refine brF ?_)); conv => whnf)
    refine ⟨hLk.symm, rfl, k, rfl, by omega, ?_⟩
    ((repeat ((conv => whnf); first | refine brT ?_ | refine brF ?_)); conv => whnf)
    refine ⟨hLk.symm, by simp, _, getP1 gk, rfl, ?_⟩
    ((repeat ((conv => whnf); first | refine brT ?_ | refine brF ?_)); conv => whnf)
    apply Exists.intro
    apply Exists.intro
    refine And.intro ?_ ?_
    · refine Weak.idn ?_ ?_ rfl
      · ((repeat ((conv => whnf); refine ⟨rfl, ?_⟩)); trivial)
      · exact ⟨rfl, trivial⟩
    ((repeat ((conv => whnf); first | refine brT ?_ | refine brF ?_)); conv => whnf)
    refine ⟨hLk.symm, rfl, k, rfl, by omega, ?_⟩
    ((repeat ((conv => whnf); first | refine brT ?_ | refine brF ?_)); conv => whnf)
    refine ⟨hLk.symm, k, [], _, rfl, getP1 gk, rfl, rfl, rfl, ((rvTo xs k).set k (rvD xs k (xs.length - 1 - k))).map natLV, by rw [gk]; exact set_nat, ?_⟩
    have hL2 : ((((rvTo xs k).set k (rvD xs k (xs.length - 1 - k)))).map natLV).length = xs.length := by rw [List.length_map, List.length_set, rvTo_len]
    have gj2 : (((rvTo xs k).set k (rvD xs k (xs.length - 1 - k))).map natLV)[xs.length - 1 - k]? = some (.int .i64 ((rvD xs k (xs.length - 1 - k) : Nat) : Int)) := by
      rw [List.getElem?_map, List.getElem?_set_ne (by omega), rvTo_get (by omega)]; rfl
    ((repeat ((conv => whnf); first | refine brT ?_ | refine brF ?_)); conv => whnf)
    refine ⟨hL2.symm, rfl, xs.length - 1 - k, by omega, by omega, ?_⟩
    ((repeat ((conv => whnf); first | refine brT ?_ | refine brF ?_)); conv => whnf)
    refine ⟨hL2.symm, xs.length - 1 - k, [], _, rfl, getP1 gj2, rfl, rfl, rfl, (((rvTo xs k).set k (rvD xs k (xs.length - 1 - k))).set (xs.length - 1 - k) (rvD xs k k)).map natLV, by rw [gj2]; exact set_nat, ?_⟩
    rw [rvTo_swap h2]
    have e := step_i (show k < xs.length by omega) (show xs.length ≤ Go.maxLen by unfold Go.maxLen; omega)
    have e2 : LV.int .i64 (IntKind.i64.wrap ((xs.length : Int) - 1 - (k : Int) - 1)) = .int .i64 ((xs.length : Int) - 1 - ((k + 1 : Nat) : Int)) := by
      rw [wrap64 (by omega) (by omega)]; congr 1; omega
    ((repeat ((conv => whnf); first | refine brT ?_ | refine brF ?_)); conv => whnf)
    subst hK
    refine round_endR [.old 0] (k + 1) (by omega) (by omega) ⟨?_, ⟨rfl, rfl, trivial⟩, rfl⟩
    repeat ((conv => whnf); first | refine ⟨rfl, e, ?_⟩ | refine ⟨rfl, e2, ?_⟩ | refine ⟨rfl, rfl, ?_⟩)
    trivial
  · have h2 : xs.length ≤ k + k + 1 := by rw [ltI_f] at g1; omega
    subst hK
    rw [← rvTo_end xs h2]
    ((repeat ((conv => whnf); first | refine brT ?_ | refine brF ?_)); conv => whnf)
    exact ⟨[], rfl, rfl, .inr ⟨[.old 0], trivial, ⟨rfl, rfl, trivial⟩, rfl⟩⟩
end Go.Proofs.Ytbiagkccgijdlaa


namespace Go.Proofs.Ytbiagkccgijdlaa
open Go.Lg
set_option maxHeartbeats 1600000
set_option maxRecDepth 10000
set_option linter.unusedVariables false
set_option linter.unusedSimpArgs false
set_option linter.unusedSectionVars false

/-! ### What is put together by keys, in the order of the first ones: over keys of any kind that a map may have -/
section
variable {κ : Type} [DecidableEq κ]
end

/-! ### Lines: by what each number stands for -/
end Go.Proofs.Ytbiagkccgijdlaa


namespace Go.Proofs.Ytbiagkccgijdlaa
open Go.Lg
set_option maxHeartbeats 3200000
set_option maxRecDepth 10000
set_option linter.unusedVariables false
set_option linter.unusedSimpArgs false

end Go.Proofs.Ytbiagkccgijdlaa


namespace Go.Proofs.Ytbiagkccgijdlaa
open Go.Lg Go.Pm
set_option maxHeartbeats 3200000
set_option maxRecDepth 10000
set_option linter.unusedVariables false
set_option linter.unusedSimpArgs false

theorem rows_f {f : FuncId} {args : List LV} {rs : List (List Int)} (h : HSpec env.P f args [] (.hs 0 (rs.map rowOw).length) [.tree 38 1 (rs.map rowOw)]) : FSpec env.P f args (.own 38 1 (rs.map rowSl)) :=
  FSpec_of_tree h (by rw [dms_rows]; simp [exW])
end Go.Proofs.Ytbiagkccgijdlaa

namespace Go.Proofs.Ytbiagkccgijdlaa
open Go.Lg Go.Pm
set_option maxHeartbeats 3200000
set_option maxRecDepth 10000
set_option linter.unusedVariables false
set_option linter.unusedSimpArgs false

theorem eldest3_h (ps : List Per) (us : List Uni) (F : Nat) (x y z : LV) (q : Nat → Bool) (hl : ps.length ≤ 40) (hF : ∀ i, i < ps.length → FSpec env.P F [.int .i64 (i : Int), .ref x, .ref y, .ref z] (.bool (q i))) :
    HSpec env.P 73 [famLV ps us, .clos F [.ref x, .ref y, .ref z]] [] (.hs 0 ((eldL ps q ps.length).map natLV).length) [.arr 3 1 ((eldL ps q ps.length).map natLV)] := by
  refine HSpec_of_code (E := env.x [110, 111] 0) env_ok.x (fn := Try.f73) Try.func73 rfl Try.call73 _ _ _ _ ?_
  have hwl := wantL_len q ps.length
  have hso := sortAge_h ps us (wantL q ps.length) (fun x hx => wantL_lt hx) (by omega)
  have er : (rowW q ps.length).length = (wantL q ps.length).length := by unfold rowW; rw [List.length_map]
  have hpw := people3_h ps us F x y z q hl hF
  rw [er] at hpw
  ((repeat ((conv => whnf); first | refine brT ?_ | refine brF ?_)); conv => whnf)
  refine ⟨[], _, _, _, _, hpw, rfl, rfl, rfl, trivial, ?_⟩
  ((repeat ((conv => whnf); first | refine brT ?_ | refine brF ?_)); conv => whnf)
  refine ⟨[0, 1], _, _, _, _, hso, rfl, rfl, rfl, trivial, ?_⟩
  ((repeat ((conv => whnf); first | refine brT ?_ | refine brF ?_)); conv => whnf)
  have el : (wantL q ps.length).length = ((eldL ps q ps.length).map natLV).length := by unfold eldL; rw [List.length_map, List.length_mergeSort]
  exact ⟨[.hs 0 (wantL q ps.length).length], by simp only [tupOf]; rw [el], rfl, .inr ⟨[.old 1], ⟨rfl, rfl, trivial⟩, ⟨rfl, rfl, trivial⟩, rfl⟩⟩
theorem containsW_spec (l : List Int) (x : Int) : FSpec env.P 96 [.sl (l.map intLV), .int .i64 x] (.bool (hasI l x)) := by
  refine FSpec_of_code env_ok (fn := Try.f96) Try.func96 rfl Try.call96 _ _ ?_
  have h := indexI_spec l x
  rw [← ixI_has x l 0]
  ((repeat ((conv => whnf); first | refine brT ?_ | refine brF ?_)); conv => whnf)
  refine ⟨_, h, ?_⟩
  ((repeat ((conv => whnf); first | refine brT ?_ | refine brF ?_)); conv => whnf)
  exact fin rfl
theorem ordered1_spec (ps : List Per) (us : List Uni) (l : List Int) (p : Int) (i : Nat) (hi : i < ps.length) :
    FSpec env.P 95 [.int .i64 (i : Int), .ref (famLV ps us), .ref (.sl (l.map intLV)), .ref (.int .i64 p)] (.bool (grpQ ps l p i)) := by
  refine FSpec_of_code env_ok (fn := Try.f95) Try.func95 rfl Try.call95 _ _ ?_
  have hg : (ps.map Per.lv)[i]? = some ps[i].lv := by simp [hi]
  have hq : grpQ ps l p i = (hasI l ps[i].sex && (eqI ps[i].father p || eqI ps[i].mother p)) := by simp [grpQ, sexD, chQ, hi, chB]
  rw [hq]
  have hc := containsW_spec l ps[i].sex
  generalize ps[i] = x at hg hc
  obtain ⟨nm, sx, fa, mo, bo, di⟩ := x
  simp only at hc
  ((repeat ((conv => whnf); first | refine brT ?_ | refine brF ?_)); conv => whnf)
  refine ⟨i, _, rfl, hg, rfl, ?_⟩
  ((repeat ((conv => whnf); first | refine brT ?_ | refine brF ?_)); conv => whnf)
  refine ⟨_, hc, ?_⟩
  ((repeat ((conv => whnf); first | refine brT ?_ | refine brF ?_)); conv => whnf)
  (refine ⟨fun g1 => ?_, fun g1 => ?_⟩ <;> rw [g1])
  · ((repeat ((conv => whnf); first | refine brT ?_ | refine brF ?_)); conv => whnf)
    (refine ⟨fun g2 => ?_, fun g2 => ?_⟩ <;> rw [g2])
    · ((repeat ((conv => whnf); first | refine brT ?_ | refine brF ?_)); conv => whnf)
      refine fin ?_; simp [g1, g2]
    · ((repeat ((conv => whnf); first | refine brT ?_ | refine brF ?_)); conv => whnf)
      refine fin ?_; simp [g1, g2]
  · ((repeat ((conv => whnf); first | refine brT ?_ | refine brF ?_)); conv => whnf)
    refine fin ?_; simp [g1]
def rowG (l : List Int) : LV := .sl (l.map intLV)
theorem groups_spec (p : Int) : FSpec env.P 94 [.int .i64 p] (.own 38 1 ((sexG p).map rowG)) := by
  have hh : HSpec env.P 94 [.int .i64 p] [] (.hs 0 ((sexG p).map rowOw).length) [.tree 38 1 ((sexG p).map rowOw)] := by
    refine HSpec_of_code (E := env.x [] 0) env_ok.x (fn := Try.f94) Try.func94 rfl Try.call94 _ _ _ _ ?_
    unfold sexG
    ((repeat ((conv => whnf); first | refine brT ?_ | refine brF ?_)); conv => whnf)
    (refine ⟨fun g1 => ?_, fun g1 => ?_⟩ <;> rw [g1])
    · ((repeat ((conv => whnf); first | refine brT ?_ | refine brF ?_)); conv => whnf)
      refine ⟨rfl, ?_⟩
      ((repeat ((conv => whnf); first | refine brT ?_ | refine brF ?_)); conv => whnf)
      refine ⟨rfl, ?_⟩
      ((repeat ((conv => whnf); first | refine brT ?_ | refine brF ?_)); conv => whnf)
      exact ⟨[.hs 0 2], rfl, rfl, .inr ⟨[.old 2], ⟨rfl, rfl, trivial⟩, ⟨rfl, rfl, trivial⟩, rfl⟩⟩
    ((repeat ((conv => whnf); first | refine brT ?_ | refine brF ?_)); conv => whnf)
    (refine ⟨fun g2 => ?_, fun g2 => ?_⟩ <;> rw [g2])
    · ((repeat ((conv => whnf); first | refine brT ?_ | refine brF ?_)); conv => whnf)
      refine ⟨rfl, ?_⟩
      ((repeat ((conv => whnf); first | refine brT ?_ | refine brF ?_)); conv => whnf)
      refine ⟨rfl, ?_⟩
      ((repeat ((conv => whnf); first | refine brT ?_ | refine brF ?_)); conv => whnf)
      exact ⟨[.hs 0 2], rfl, rfl, .inr ⟨[.old 2], ⟨rfl, rfl, trivial⟩, ⟨rfl, rfl, trivial⟩, rfl⟩⟩
    ((repeat ((conv => whnf); first | refine brT ?_ | refine brF ?_)); conv => whnf)
    (refine ⟨fun g3 => ?_, fun g3 => ?_⟩ <;> rw [g3])
    · ((repeat ((conv => whnf); first | refine brT ?_ | refine brF ?_)); conv => whnf)
      refine ⟨rfl, ?_⟩
      ((repeat ((conv => whnf); first | refine brT ?_ | refine brF ?_)); conv => whnf)
      exact ⟨[.hs 0 1], rfl, rfl, .inr ⟨[.old 1], ⟨rfl, rfl, trivial⟩, ⟨rfl, rfl, trivial⟩, rfl⟩⟩
    ((repeat ((conv => whnf); first | refine brT ?_ | refine brF ?_)); conv => whnf)
    (refine ⟨fun g4 => ?_, fun g4 => ?_⟩ <;> rw [g4])
    · ((repeat ((conv => whnf); first | refine brT ?_ | refine brF ?_)); conv => whnf)
      refine ⟨rfl, ?_⟩
      ((repeat ((conv => whnf); first | refine brT ?_ | refine brF ?_)); conv => whnf)
      exact ⟨[.hs 0 1], rfl, rfl, .inr ⟨[.old 1], ⟨rfl, rfl, trivial⟩, ⟨rfl, rfl, trivial⟩, rfl⟩⟩
    ((repeat ((conv => whnf); first | refine brT ?_ | refine brF ?_)); conv => whnf)
    refine ⟨rfl, ?_⟩
    ((repeat ((conv => whnf); first | refine brT ?_ | refine brF ?_)); conv => whnf)
    exact ⟨[.hs 0 1], rfl, rfl, .inr ⟨[.old 1], ⟨rfl, rfl, trivial⟩, ⟨rfl, rfl, trivial⟩, rfl⟩⟩
  exact rows_f hh
theorem ordered_h (ps : List Per) (us : List Uni) (x : Cus) (p : Int) (hl : ps.length ≤ 40) :
    HSpec env.P 62 [famLV ps us, x.lv, .int .i64 p] [] (.hs 0 ((ordL ps x p).map natLV).length) [.arr 3 1 ((ordL ps x p).map natLV)] := by
  refine HSpec_of_code (E := env.x [73, 97] 0) env_ok.x (fn := Try.f62) Try.func62 rfl Try.call62 _ _ _ _ ?_
  have hG := groups_spec x.prefer
  have hGl : ((sexG x.prefer).map rowG).length = (sexG x.prefer).length := List.length_map ..
  have hG2 := sexG_len x.prefer
  have hT := ordTo_len ps x p
  rw [← ordTo_all]
  have hS := fun k h => ordTo_succ (k := k) ps x p h
  obtain ⟨pr, yo, re⟩ := x
  simp only at hG hGl hG2 hS
  ((repeat ((conv => whnf); first | refine brT ?_ | refine brF ?_)); conv => whnf)
  refine ⟨_, hG, ?_⟩
  ((repeat ((conv => whnf); first | refine brT ?_ | refine brF ?_)); conv => whnf)
  intro _
  rw [hGl]
  ((repeat ((conv => whnf); first | refine brT ?_ | refine brF ?_)); conv => whnf)
  refine loop_ruleR (α := Nat) [.old 0, .old 1, .old 2, .nil 3 1] (fun k => [(15, .int .i64 (k : Int)), (7, .hs 3 ((ordTo ps ⟨pr, yo, re⟩ p k).map natLV).length)])
    (fun k => [.box (famLV ps us), .box (.st [.int .i64 pr, .bool yo, .bool re]), .box (.int .i64 p), .arr 3 1 ((ordTo ps ⟨pr, yo, re⟩ p k).map natLV)]) (fun k => (sexG pr).length - k) (fun k => k ≤ (sexG pr).length) 0 (Nat.zero_le _) ?_ ?_
  · refine ⟨?_, ⟨rfl, rfl, rfl, rfl, rfl, rfl, rfl, rfl, trivial⟩, rfl⟩
    ((repeat ((conv => whnf); refine ⟨rfl, rfl, ?_⟩)); trivial)
  intro k hk
  generalize hK : kk _ = KK
  ((repeat ((conv => whnf); first | refine brT ?_ | refine brF ?_)); conv => whnf)
  (refine ⟨fun g1 => ?_, fun g1 => ?_⟩ <;> rw [g1])
  · have hlt : k < (sexG pr).length := by rw [ltI_t] at g1; omega
    have e := step_i hlt (by unfold Go.maxLen; omega)
    have hg : ((sexG pr).map rowG)[k]? = some (.sl ((sexG pr)[k].map intLV)) := by rw [List.getElem?_map, List.getElem?_eq_getElem hlt]; rfl
    have hs1 := hS k hlt
    have hle := ordG_len ps ⟨pr, yo, re⟩ p (sexG pr)[k]
    have hT1 := hT (k + 1)
    generalize (sexG pr)[k] = l at hg hs1 hle
    ((repeat ((conv => whnf); first | refine brT ?_ | refine brF ?_)); conv => whnf)
    refine ⟨k, _, rfl, hg, rfl, ?_⟩
    ((repeat ((conv => whnf); first | refine brT ?_ | refine brF ?_)); conv => whnf)
    have hEl := eldest3_h ps us 95 (famLV ps us) (.sl (l.map intLV)) (.int .i64 p) (grpQ ps l p) hl (fun i hi => ordered1_spec ps us l p i hi)
    refine ⟨[], _, _, _, _, hEl, rfl, rfl, rfl, ⟨rfl, flats_nats _, trivial⟩, ?_⟩
    have hQl : (eldL ps (grpQ ps l p) ps.length).length ≤ ps.length := eldL_len _ _ _
    have hO : ordG ps ⟨pr, yo, re⟩ p l = turnL yo (eldL ps (grpQ ps l p) ps.length) := rfl
    generalize eldL ps (grpQ ps l p) ps.length = Q at hQl hO
    ((repeat ((conv => whnf); first | refine brT ?_ | refine brF ?_)); conv => whnf)
    cases yo
    · ((repeat ((conv => whnf); first | refine brT ?_ | refine brF ?_)); conv => whnf)
      have e2 : (ordTo ps ⟨pr, false, re⟩ p k).map natLV ++ Q.map natLV = (ordTo ps ⟨pr, false, re⟩ p (k + 1)).map natLV := by rw [hs1, hO, List.map_append]; rfl
      have e3 : ((ordTo ps ⟨pr, false, re⟩ p (k + 1)).map natLV).length ≤ 80 := by rw [List.length_map]; omega
      refine ⟨rfl, ?_⟩
      ((repeat ((conv => whnf); first | refine brT ?_ | refine brF ?_)); conv => whnf)
      refine ⟨rfl, ?_, ?_, ?_⟩
      · rw [e2]; unfold Go.maxLen; omega
      · rw [e2]; show ((ordTo ps ⟨pr, false, re⟩ p (k + 1)).map natLV).length * 8 ≤ _; omega
      rw [e2]
      ((repeat ((conv => whnf); first | refine brT ?_ | refine brF ?_)); conv => whnf)
      subst hK
      refine round_endR [.old 0, .old 1, .old 2, .old 6] (k + 1) hlt (by omega) ⟨?_, ⟨rfl, rfl, rfl, rfl, rfl, rfl, rfl, rfl, trivial⟩, rfl⟩
      ((repeat ((conv => whnf); first | refine ⟨rfl, e, ?_⟩ | refine ⟨rfl, rfl, ?_⟩)); trivial)
    · ((repeat ((conv => whnf); first | refine brT ?_ | refine brF ?_)); conv => whnf)
      refine ⟨[5], _, _, _, _, reverse_h Q (by omega), rfl, rfl, rfl, trivial, ?_⟩
      ((repeat ((conv => whnf); first | refine brT ?_ | refine brF ?_)); conv => whnf)
      have e2 : (ordTo ps ⟨pr, true, re⟩ p k).map natLV ++ Q.reverse.map natLV = (ordTo ps ⟨pr, true, re⟩ p (k + 1)).map natLV := by rw [hs1, hO, List.map_append]; rfl
      have e3 : ((ordTo ps ⟨pr, true, re⟩ p (k + 1)).map natLV).length ≤ 80 := by rw [List.length_map]; omega
      refine ⟨by simp, ?_⟩
      ((repeat ((conv => whnf); first | refine brT ?_ | refine brF ?_)); conv => whnf)
      refine ⟨rfl, ?_, ?_, ?_⟩
      · rw [e2]; unfold Go.maxLen; omega
      · rw [e2]; show ((ordTo ps ⟨pr, true, re⟩ p (k + 1)).map natLV).length * 8 ≤ _; omega
      rw [e2]
      ((repeat ((conv => whnf); first | refine brT ?_ | refine brF ?_)); conv => whnf)
      subst hK
      refine round_endR [.old 0, .old 1, .old 2, .old 6] (k + 1) hlt (by omega) ⟨?_, ⟨rfl, rfl, rfl, rfl, rfl, rfl, rfl, rfl, trivial⟩, rfl⟩
      ((repeat ((conv => whnf); first | refine ⟨rfl, e, ?_⟩ | refine ⟨rfl, rfl, ?_⟩)); trivial)
  have h4 : k = (sexG pr).length := by rw [ltI_f] at g1; omega
  subst h4
  subst hK
  ((repeat ((conv => whnf); first | refine brT ?_ | refine brF ?_)); conv => whnf)
  exact ⟨[.hs 0 ((ordTo ps ⟨pr, yo, re⟩ p (sexG pr).length).map natLV).length], rfl, rfl, .inr ⟨[.old 3], ⟨rfl, rfl, trivial⟩, ⟨rfl, rfl, trivial⟩, rfl⟩⟩
end Go.Proofs.Ytbiagkccgijdlaa


namespace Go.Proofs.Ytbiagkccgijdlaa
open Go.Lg Go.Pm
set_option maxHeartbeats 3200000
set_option maxRecDepth 10000
set_option linter.unusedVariables false
set_option linter.unusedSimpArgs false

/-! ### The model's way to the children in order -/
def ofTo (ps : List Per) (yo : Bool) (l : List Nat) (s : Int) (k : Nat) : List Nat := turnL yo ((l.take k).filter (sexOf ps s))
theorem ofTo_len (ps : List Per) (yo : Bool) (l : List Nat) (s : Int) (k : Nat) : (ofTo ps yo l s k).length ≤ l.length := by
  unfold ofTo
  rw [turnL_len]
  refine Nat.le_trans (List.length_filter_le _ _) ?_
  rw [List.length_take]; omega
theorem ofTo_no {ps : List Per} {yo : Bool} {l : List Nat} {s : Int} {k : Nat} (h : k < l.length) (e : sexOf ps s l[k] = false) : ofTo ps yo l s (k + 1) = ofTo ps yo l s k := by
  unfold ofTo
  rw [List.take_succ_eq_append_getElem h, List.filter_append]
  simp [e]
theorem ofTo_old {ps : List Per} {l : List Nat} {s : Int} {k : Nat} (h : k < l.length) (e : sexOf ps s l[k] = true) : ofTo ps false l s (k + 1) = ofTo ps false l s k ++ [l[k]] := by
  unfold ofTo turnL
  rw [List.take_succ_eq_append_getElem h, List.filter_append]
  simp [e]
theorem ofTo_new {ps : List Per} {l : List Nat} {s : Int} {k : Nat} (h : k < l.length) (e : sexOf ps s l[k] = true) : ofTo ps true l s (k + 1) = l[k] :: ofTo ps true l s k := by
  unfold ofTo turnL
  rw [List.take_succ_eq_append_getElem h, List.filter_append]
  simp [e]
theorem l10Of_h (ps : List Per) (us : List Uni) (x : Cus) (l : List Nat) (s : Int) (hb : l.length ≤ 1048576) (hL : ∀ q ∈ l, q < ps.length) :
    HSpec env.P 91 [famLV ps us, x.lv, natsSl l, .int .i64 s] [] (.hs 0 ((ofL ps x l s).map natLV).length) [.arr 3 1 ((ofL ps x l s).map natLV)] := by
  refine HSpec_of_code (E := env.x [] 0) env_ok.x (fn := Try.f91) Try.func91 rfl Try.call91 _ _ _ _ ?_
  have hN := nats_len l
  have hl' : l.length ≤ Go.maxLen := by unfold Go.maxLen; omega
  have hE : ofL ps x l s = ofTo ps x.young l s l.length := by unfold ofL ofTo; rw [List.take_length]
  rw [hE]
  obtain ⟨pr, yo, re⟩ := x
  unfold natsSl
  simp only
  ((repeat ((conv => whnf); first | refine brT ?_ | refine brF ?_)); conv => whnf)
  intro _
  rw [hN]
  ((repeat ((conv => whnf); first | refine brT ?_ | refine brF ?_)); conv => whnf)
  refine loop_ruleR (α := Nat) [.old 0, .old 1, .old 2] (fun k => [(15, .int .i64 (k : Int)), (12, .undef), (9, .hs 2 ((ofTo ps yo l s k).map natLV).length)]) (fun k => [.box (famLV ps us), .box (.st [.int .i64 pr, .bool yo, .bool re]), .arr 3 1 ((ofTo ps yo l s k).map natLV)]) (fun k => l.length - k) (fun k => k ≤ l.length) 0 (Nat.zero_le _) ?_ ?_
  · have e0 : ofTo ps yo l s 0 = [] := by unfold ofTo; cases yo <;> rfl
    refine ⟨?_, ⟨rfl, rfl, rfl, rfl, rfl, congrArg (fun l : List Nat => Blk.arr 3 1 (l.map natLV)) e0.symm, trivial⟩, rfl⟩
    have e1 : LV.hs 2 0 = LV.hs 2 ((ofTo ps yo l s 0).map natLV).length := by rw [e0]; rfl
    repeat ((conv => whnf); first | refine ⟨rfl, e1, ?_⟩ | refine ⟨rfl, rfl, ?_⟩)
    trivial
  intro k hk
  generalize hK : kk _ = KK
  have hol := ofTo_len ps yo l s k
  have hol1 := ofTo_len ps yo l s (k + 1)
  ((repeat ((conv => whnf); first | refine brT ?_ | refine brF ?_)); conv => whnf)
  (refine ⟨fun g1 => ?_, fun g1 => ?_⟩ <;> rw [g1])
  · have hlt : k < l.length := by rw [ltI_t] at g1; omega
    have e := step_i hlt hl'
    have hq : l[k] < ps.length := hL _ (List.getElem_mem hlt)
    have hg : (l.map natLV)[k]? = some (natLV l[k]) := by simp [hlt]
    have hgp : (ps.map Per.lv)[l[k]]? = some ps[l[k]].lv := by simp [hq]
    have hsx : sexD ps l[k] = ps[l[k]].sex := by simp [sexD, hq]
    have hsq : sexOf ps s l[k] = notB (notB (eqI s 0) && notB (eqI ps[l[k]].sex s)) := by unfold sexOf; rw [hsx]
    have n0 := ofTo_no (ps := ps) (yo := yo) (s := s) hlt
    have n1 := ofTo_old (ps := ps) (s := s) hlt
    have n2 := ofTo_new (ps := ps) (s := s) hlt
    generalize l[k] = q at hq hg hgp hsq n0 n1 n2
    generalize ps[q] = y at hgp hsq
    obtain ⟨nm, sx, fa, mo, bo, di⟩ := y
    simp only at hsq
    ((repeat ((conv => whnf); first | refine brT ?_ | refine brF ?_)); conv => whnf)
    refine ⟨k, _, rfl, hg, rfl, ?_⟩
    rw [show natLV q = .int .i64 (q : Int) from rfl]
    ((repeat ((conv => whnf); first | refine brT ?_ | refine brF ?_)); conv => whnf)
    cases g2 : eqI s 0
    · rw [show notB false = true by simp [notB]]
      ((repeat ((conv => whnf); first | refine brT ?_ | refine brF ?_)); conv => whnf)
      refine ⟨q, _, rfl, hgp, rfl, ?_⟩
      ((repeat ((conv => whnf); first | refine brT ?_ | refine brF ?_)); conv => whnf)
      cases g3 : eqI sx s
      · rw [show notB false = true by simp [notB]]
        ((repeat ((conv => whnf); first | refine brT ?_ | refine brF ?_)); conv => whnf)
        subst hK
        have e2 := n0 (by rw [hsq, g2, g3]; simp [notB])
        have e3 : LV.hs 2 ((ofTo ps yo l s k).map natLV).length = LV.hs 2 ((ofTo ps yo l s (k + 1)).map natLV).length := by rw [e2]
        refine round_endR [.old 0, .old 1, .old 2] (k + 1) hlt (by omega) ⟨?_, ⟨rfl, rfl, rfl, rfl, rfl, congrArg (fun l : List Nat => Blk.arr 3 1 (l.map natLV)) e2.symm, trivial⟩, rfl⟩
        repeat ((conv => whnf); first | refine ⟨rfl, e, ?_⟩ | refine ⟨rfl, e3, ?_⟩ | refine ⟨rfl, rfl, ?_⟩)
        trivial
      · rw [show notB true = false by simp [notB]]
        ((repeat ((conv => whnf); first | refine brT ?_ | refine brF ?_)); conv => whnf)
        have hq1 : sexOf ps s q = true := by rw [hsq, g2, g3]; simp [notB]
        cases yo
        · have e2 : (ofTo ps false l s k).map natLV ++ [LV.int .i64 (q : Int)] = (ofTo ps false l s (k + 1)).map natLV := by rw [n1 hq1, List.map_append]; rfl
          ((repeat ((conv => whnf); first | refine brT ?_ | refine brF ?_)); conv => whnf)
          refine ⟨rfl, rfl, ?_, ?_, ?_⟩
          · rw [e2, List.length_map]; unfold Go.maxLen; omega
          · rw [e2, List.length_map]; show (ofTo ps false l s (k + 1)).length * 8 ≤ _; omega
          rw [e2]
          ((repeat ((conv => whnf); first | refine brT ?_ | refine brF ?_)); conv => whnf)
          subst hK
          refine round_endR [.old 0, .old 1, .old 4] (k + 1) hlt (by omega) ⟨?_, ⟨rfl, rfl, rfl, rfl, rfl, rfl, trivial⟩, rfl⟩
          repeat ((conv => whnf); first | refine ⟨rfl, e, ?_⟩ | refine ⟨rfl, rfl, ?_⟩)
          trivial
        · have e2 : [LV.int .i64 (q : Int)] ++ (ofTo ps true l s k).map natLV = (ofTo ps true l s (k + 1)).map natLV := by rw [n2 hq1]; rfl
          ((repeat ((conv => whnf); first | refine brT ?_ | refine brF ?_)); conv => whnf)
          refine ⟨rfl, ?_⟩
          ((repeat ((conv => whnf); first | refine brT ?_ | refine brF ?_)); conv => whnf)
          refine ⟨rfl, ?_, ?_, ?_⟩
          · rw [e2, List.length_map]; unfold Go.maxLen; omega
          · rw [e2, List.length_map]; show (ofTo ps true l s (k + 1)).length * 8 ≤ _; omega
          rw [e2]
          ((repeat ((conv => whnf); first | refine brT ?_ | refine brF ?_)); conv => whnf)
          subst hK
          refine round_endR [.old 0, .old 1, .old 4] (k + 1) hlt (by omega) ⟨?_, ⟨rfl, rfl, rfl, rfl, rfl, rfl, trivial⟩, rfl⟩
          repeat ((conv => whnf); first | refine ⟨rfl, e, ?_⟩ | refine ⟨rfl, rfl, ?_⟩)
          trivial
    · rw [show notB true = false by simp [notB]]
      ((repeat ((conv => whnf); first | refine brT ?_ | refine brF ?_)); conv => whnf)
      have hq1 : sexOf ps s q = true := by rw [hsq, g2]; simp [notB]
      cases yo
      · have e2 : (ofTo ps false l s k).map natLV ++ [LV.int .i64 (q : Int)] = (ofTo ps false l s (k + 1)).map natLV := by rw [n1 hq1, List.map_append]; rfl
        ((repeat ((conv => whnf); first | refine brT ?_ | refine brF ?_)); conv => whnf)
        refine ⟨rfl, rfl, ?_, ?_, ?_⟩
        · rw [e2, List.length_map]; unfold Go.maxLen; omega
        · rw [e2, List.length_map]; show (ofTo ps false l s (k + 1)).length * 8 ≤ _; omega
        rw [e2]
        ((repeat ((conv => whnf); first | refine brT ?_ | refine brF ?_)); conv => whnf)
        subst hK
        refine round_endR [.old 0, .old 1, .old 4] (k + 1) hlt (by omega) ⟨?_, ⟨rfl, rfl, rfl, rfl, rfl, rfl, trivial⟩, rfl⟩
        repeat ((conv => whnf); first | refine ⟨rfl, e, ?_⟩ | refine ⟨rfl, rfl, ?_⟩)
        trivial
      · have e2 : [LV.int .i64 (q : Int)] ++ (ofTo ps true l s k).map natLV = (ofTo ps true l s (k + 1)).map natLV := by rw [n2 hq1]; rfl
        ((repeat ((conv => whnf); first | refine brT ?_ | refine brF ?_)); conv => whnf)
        refine ⟨rfl, ?_⟩
        ((repeat ((conv => whnf); first | refine brT ?_ | refine brF ?_)); conv => whnf)
        refine ⟨rfl, ?_, ?_, ?_⟩
        · rw [e2, List.length_map]; unfold Go.maxLen; omega
        · rw [e2, List.length_map]; show (ofTo ps true l s (k + 1)).length * 8 ≤ _; omega
        rw [e2]
        ((repeat ((conv => whnf); first | refine brT ?_ | refine brF ?_)); conv => whnf)
        subst hK
        refine round_endR [.old 0, .old 1, .old 4] (k + 1) hlt (by omega) ⟨?_, ⟨rfl, rfl, rfl, rfl, rfl, rfl, trivial⟩, rfl⟩
        repeat ((conv => whnf); first | refine ⟨rfl, e, ?_⟩ | refine ⟨rfl, rfl, ?_⟩)
        trivial
  have h4 : k = l.length := by rw [ltI_f] at g1; omega
  subst h4
  subst hK
  ((repeat ((conv => whnf); first | refine brT ?_ | refine brF ?_)); conv => whnf)
  exact ⟨[.hs 0 ((ofTo ps yo l s l.length).map natLV).length], rfl, rfl, .inr ⟨[.old 2], ⟨rfl, rfl, trivial⟩, ⟨rfl, rfl, trivial⟩, rfl⟩⟩
end Go.Proofs.Ytbiagkccgijdlaa


namespace Go.Proofs.Ytbiagkccgijdlaa
open Go.Lg Go.Pm
set_option maxHeartbeats 3200000
set_option maxRecDepth 10000
set_option linter.unusedVariables false
set_option linter.unusedSimpArgs false

theorem l10Children_h (ps : List Per) (us : List Uni) (x : Cus) (p : Int) (hl : ps.length ≤ 40) :
    HSpec env.P 58 [famLV ps us, x.lv, .int .i64 p] [] (.hs 0 ((chlL ps x p).map natLV).length) [.arr 3 1 ((chlL ps x p).map natLV)] := by
  refine HSpec_of_code (E := env.x [81, 91] 0) env_ok.x (fn := Try.f58) Try.func58 rfl Try.call58 _ _ _ _ ?_
  have hC := l1Children_h ps us p hl
  have hCl := eldL_len ps (chQ ps p) ps.length
  have hCm : ∀ q ∈ eldL ps (chQ ps p) ps.length, q < ps.length := fun q hq => (eldL_mem.1 hq).1
  have hB : ∀ s, (ofL ps x (eldL ps (chQ ps p) ps.length) s).length ≤ 40 := fun s => by
    unfold ofL; rw [turnL_len]
    exact Nat.le_trans (List.length_filter_le _ _) (by omega)
  unfold chlL
  have hO := fun s => l10Of_h ps us x (eldL ps (chQ ps p) ps.length) s (by omega) hCm
  have g : ∀ L : List Nat, L = eldL ps (chQ ps p) ps.length → L = eldL ps (chQ ps p) ps.length := fun _ h => h
  generalize eldL ps (chQ ps p) ps.length = L at hC hCl hCm hB hO ⊢
  clear g
  have hE : ∀ s, ofL ps x L s = ofL ps x L s := fun _ => rfl
  generalize hF : (fun s => ofL ps x L s) = F
  have hF' : ∀ s, ofL ps x L s = F s := fun s => by rw [← hF]
  simp only [hF'] at hO hB ⊢
  clear hF hF' hE
  obtain ⟨pr, yo, re⟩ := x
  unfold natsSl at hO
  simp only at hO ⊢
  ((repeat ((conv => whnf); first | refine brT ?_ | refine brF ?_)); conv => whnf)
  refine ⟨[], _, _, _, _, hC, rfl, rfl, rfl, trivial, ?_⟩
  ((repeat ((conv => whnf); first | refine brT ?_ | refine brF ?_)); conv => whnf)
  (refine ⟨fun g1 => ?_, fun g1 => ?_⟩ <;> rw [g1])
  · ((repeat ((conv => whnf); first | refine brT ?_ | refine brF ?_)); conv => whnf)
    refine ⟨false, 0, 0, 2, [0, 1, 2, 4, 5, 6], (.one 3 (.one 7 (.one 8 (.one 9 .done)))), by kernel_rfl, by kernel_rfl, ?_⟩
    ((repeat ((conv => whnf); first | refine brT ?_ | refine brF ?_)); conv => whnf)
    apply Exists.intro
    apply Exists.intro
    refine And.intro ?_ ?_
    · refine ⟨_, _, _, _, hO 1, rfl, rfl, rfl, rfl, ⟨rfl, flats_nats _, trivial⟩, ?_⟩
      ((repeat ((conv => whnf); first | refine brT ?_ | refine brF ?_)); conv => whnf)
      refine ⟨_, _, _, _, hO 2, rfl, rfl, rfl, rfl, ⟨rfl, flats_nats _, trivial⟩, ?_⟩
      ((repeat ((conv => whnf); first | refine brT ?_ | refine brF ?_)); conv => whnf)
      refine Weak.idn ?_ ?_ rfl
      · ((repeat ((conv => whnf); refine ⟨rfl, ?_⟩)); trivial)
      · exact ⟨rfl, rfl, rfl, rfl, rfl, trivial⟩
    ((repeat ((conv => whnf); first | refine brT ?_ | refine brF ?_)); conv => whnf)
    refine ⟨rfl, ?_⟩
    ((repeat ((conv => whnf); first | refine brT ?_ | refine brF ?_)); conv => whnf)
    have e2 : (F 1).map natLV ++ (F 2).map natLV = (F 1 ++ F 2).map natLV := by rw [List.map_append]
    have hb1 := hB 1
    have hb2 := hB 2
    refine ⟨rfl, ?_, ?_, ?_⟩
    · rw [e2, List.length_map, List.length_append]; unfold Go.maxLen; omega
    · rw [e2, List.length_map, List.length_append]; show ((F 1).length + (F 2).length) * 8 ≤ _; omega
    rw [e2]
    ((repeat ((conv => whnf); first | refine brT ?_ | refine brF ?_)); conv => whnf)
    exact ⟨[.hs 0 ((F 1 ++ F 2).map natLV).length], rfl, rfl, .inr ⟨[.old 5], ⟨rfl, rfl, trivial⟩, ⟨rfl, rfl, trivial⟩, rfl⟩⟩
  · ((repeat ((conv => whnf); first | refine brT ?_ | refine brF ?_)); conv => whnf)
    (refine ⟨fun g2 => ?_, fun g2 => ?_⟩ <;> rw [g2])
    · ((repeat ((conv => whnf); first | refine brT ?_ | refine brF ?_)); conv => whnf)
      refine ⟨false, 0, 0, 2, [0, 1, 2, 4, 5, 6], (.one 3 (.one 7 (.one 8 (.one 9 .done)))), by kernel_rfl, by kernel_rfl, ?_⟩
      ((repeat ((conv => whnf); first | refine brT ?_ | refine brF ?_)); conv => whnf)
      apply Exists.intro
      apply Exists.intro
      refine And.intro ?_ ?_
      · refine ⟨_, _, _, _, hO 2, rfl, rfl, rfl, rfl, ⟨rfl, flats_nats _, trivial⟩, ?_⟩
        ((repeat ((conv => whnf); first | refine brT ?_ | refine brF ?_)); conv => whnf)
        refine ⟨_, _, _, _, hO 1, rfl, rfl, rfl, rfl, ⟨rfl, flats_nats _, trivial⟩, ?_⟩
        ((repeat ((conv => whnf); first | refine brT ?_ | refine brF ?_)); conv => whnf)
        refine Weak.idn ?_ ?_ rfl
        · ((repeat ((conv => whnf); refine ⟨rfl, ?_⟩)); trivial)
        · exact ⟨rfl, rfl, rfl, rfl, rfl, trivial⟩
      ((repeat ((conv => whnf); first | refine brT ?_ | refine brF ?_)); conv => whnf)
      refine ⟨rfl, ?_⟩
      ((repeat ((conv => whnf); first | refine brT ?_ | refine brF ?_)); conv => whnf)
      have e2 : (F 2).map natLV ++ (F 1).map natLV = (F 2 ++ F 1).map natLV := by rw [List.map_append]
      have hb1 := hB 2
      have hb2 := hB 1
      refine ⟨rfl, ?_, ?_, ?_⟩
      · rw [e2, List.length_map, List.length_append]; unfold Go.maxLen; omega
      · rw [e2, List.length_map, List.length_append]; show ((F 2).length + (F 1).length) * 8 ≤ _; omega
      rw [e2]
      ((repeat ((conv => whnf); first | refine brT ?_ | refine brF ?_)); conv => whnf)
      exact ⟨[.hs 0 ((F 2 ++ F 1).map natLV).length], rfl, rfl, .inr ⟨[.old 5], ⟨rfl, rfl, trivial⟩, ⟨rfl, rfl, trivial⟩, rfl⟩⟩
    · ((repeat ((conv => whnf); first | refine brT ?_ | refine brF ?_)); conv => whnf)
      (refine ⟨fun g3 => ?_, fun g3 => ?_⟩ <;> rw [g3])
      · ((repeat ((conv => whnf); first | refine brT ?_ | refine brF ?_)); conv => whnf)
        refine ⟨[], _, _, _, _, hO 1, rfl, ?_⟩
        ((repeat ((conv => whnf); first | refine brT ?_ | refine brF ?_)); conv => whnf)
        refine ⟨rfl, ?_⟩
        ((repeat ((conv => whnf); first | refine brT ?_ | refine brF ?_)); conv => whnf)
        refine ⟨rfl, rfl, ⟨rfl, flats_nats _, trivial⟩, ?_⟩
        ((repeat ((conv => whnf); first | refine brT ?_ | refine brF ?_)); conv => whnf)
        exact ⟨[.hs 0 ((F 1).map natLV).length], rfl, rfl, .inr ⟨[.old 3], ⟨rfl, rfl, trivial⟩, ⟨rfl, rfl, trivial⟩, rfl⟩⟩
      · ((repeat ((conv => whnf); first | refine brT ?_ | refine brF ?_)); conv => whnf)
        (refine ⟨fun g4 => ?_, fun g4 => ?_⟩ <;> rw [g4])
        · ((repeat ((conv => whnf); first | refine brT ?_ | refine brF ?_)); conv => whnf)
          refine ⟨[], _, _, _, _, hO 2, rfl, ?_⟩
          ((repeat ((conv => whnf); first | refine brT ?_ | refine brF ?_)); conv => whnf)
          refine ⟨rfl, ?_⟩
          ((repeat ((conv => whnf); first | refine brT ?_ | refine brF ?_)); conv => whnf)
          refine ⟨rfl, rfl, ⟨rfl, flats_nats _, trivial⟩, ?_⟩
          ((repeat ((conv => whnf); first | refine brT ?_ | refine brF ?_)); conv => whnf)
          exact ⟨[.hs 0 ((F 2).map natLV).length], rfl, rfl, .inr ⟨[.old 3], ⟨rfl, rfl, trivial⟩, ⟨rfl, rfl, trivial⟩, rfl⟩⟩
        · ((repeat ((conv => whnf); first | refine brT ?_ | refine brF ?_)); conv => whnf)
          refine ⟨[], _, _, _, _, hO 0, rfl, ?_⟩
          ((repeat ((conv => whnf); first | refine brT ?_ | refine brF ?_)); conv => whnf)
          refine ⟨rfl, ?_⟩
          ((repeat ((conv => whnf); first | refine brT ?_ | refine brF ?_)); conv => whnf)
          refine ⟨rfl, rfl, ⟨rfl, flats_nats _, trivial⟩, ?_⟩
          ((repeat ((conv => whnf); first | refine brT ?_ | refine brF ?_)); conv => whnf)
          exact ⟨[.hs 0 ((F 0).map natLV).length], rfl, rfl, .inr ⟨[.old 3], ⟨rfl, rfl, trivial⟩, ⟨rfl, rfl, trivial⟩, rfl⟩⟩
end Go.Proofs.Ytbiagkccgijdlaa


namespace Go.Proofs.Ytbiagkccgijdlaa
open Go.Lg Go.Pm
set_option maxHeartbeats 3200000
set_option maxRecDepth 10000
set_option linter.unusedVariables false
set_option linter.unusedSimpArgs false

end Go.Proofs.Ytbiagkccgijdlaa


namespace Go.Proofs.Ytbiagkccgijdlaa
open Go.Lg Go.Pm
set_option maxHeartbeats 6400000
set_option maxRecDepth 10000
set_option linter.unusedVariables false
set_option linter.unusedSimpArgs false

/-! ### The heirs below, as the program finds them -/
def sucLV (ps : List Per) (us : List Uni) (x : Cus) (y : Int) (S : (Nat → Bool) × List Nat) : LV := .st [famLV ps us, x.lv, .int .i64 y, uLV (bitsP ps.length S.1), .own 3 1 (S.2.map natLV)]
theorem alive_impl (q : Per) (y : Int) : FSpec env.P 102 [q.lv, .int .i64 y] (.bool (aliveB q y)) := by
  obtain ⟨nm, sx, fa, mo, bo, di⟩ := q
  refine FSpec_of_code env_ok (fn := Try.f102) Try.func102 rfl Try.call102 _ _ ?_
  ((repeat' (((repeat ((conv => whnf); first | refine brT ?_ | refine brF ?_)); conv => whnf); first | (refine And.intro ?_ ?_ <;> (intro h; rw [h]; revert h; intro _)) | (refine Exists.intro true (And.intro (a := drawB _ _ = true) (by kernel_rfl) ?_)) | (refine Exists.intro _ (And.intro () ?_)))); all_goals ((repeat ((conv => whnf); first | refine brT ?_ | refine brF ?_)); conv => whnf))
  all_goals (refine fin ?_; simp_all [aliveB])
theorem alive_spec (ps : List Per) (us : List Uni) (i : Nat) (y : Int) (hi : i < ps.length) : FSpec env.P 101 [famLV ps us, .int .i64 (i : Int), .int .i64 y] (.bool (alv ps y i)) := by
  have hg : (ps.map Per.lv)[i]? = some ps[i].lv := by simp [hi]
  have ha : alv ps y i = aliveB ps[i] y := by simp [alv, hi]
  rw [ha]
  generalize ps[i] = q at hg
  obtain ⟨nm, sx, fa, mo, bo, di⟩ := q
  refine FSpec_of_code env_ok (fn := Try.f101) Try.func101 rfl Try.call101 _ _ ?_
  ((repeat ((conv => whnf); first | refine brT ?_ | refine brF ?_)); conv => whnf)
  refine ⟨i, _, rfl, hg, rfl, ?_⟩
  ((repeat' (((repeat ((conv => whnf); first | refine brT ?_ | refine brF ?_)); conv => whnf); first | (refine And.intro ?_ ?_ <;> (intro h; rw [h]; revert h; intro _)) | (refine Exists.intro true (And.intro (a := drawB _ _ = true) (by kernel_rfl) ?_)) | (refine Exists.intro _ (And.intro () ?_)))); all_goals ((repeat ((conv => whnf); first | refine brT ?_ | refine brF ?_)); conv => whnf))
  all_goals (refine fin ?_; simp_all [aliveB])
theorem has_spec (n : Nat) (M : Nat → Bool) (i : Nat) (hi : i < n) (hn : n ≤ 40) : FSpec env.P 103 [uLV (bitsP n M), .int .i64 (i : Int)] (.bool (M i)) := by
  refine FSpec_of_code env_ok (fn := Try.f103) Try.func103 rfl Try.call103 _ _ ?_
  have h := has_bits (s := bitsP n M) (b := (i : Int)) (bitsP_64 M (by omega)) (by omega) (by omega)
  rw [bitsP_has hi] at h
  rw [← h]
  unfold uLV
  ((repeat ((conv => whnf); first | refine brT ?_ | refine brF ?_)); conv => whnf)
  refine ⟨by omega, ?_⟩
  ((repeat ((conv => whnf); first | refine brT ?_ | refine brF ?_)); conv => whnf)
  exact fin rfl
theorem add_h (ps : List Per) (us : List Uni) (x : Cus) (y : Int) (S : (Nat → Bool) × List Nat) (c : Nat) (hc : c < ps.length) (hl : ps.length ≤ 40) :
    HSpec env.P 104 [.hp 0 1 [0, 3], .int .i64 (c : Int)] [.tree 88 8 [sucLV ps us x y S]] (.tup []) [.tree 88 8 [sucLV ps us x y (insP S.1 c, S.2)]] := by
  refine HSpec_of_code (E := env.x [] 1) env_ok.x (fn := Try.f104) Try.func104 rfl Try.call104 _ _ _ _ ?_
  have hb : Go.Lg.orI .u64 (bitsP ps.length S.1 : Int) (shlI .u64 1 (c : Int)) = (bitsP ps.length (insP S.1 c) : Int) := by
    rw [shlI_one (by omega) (by omega), orI_nat (bitsP_64 _ (by omega)) (two_lt (by omega))]
    rw [show ((c : Int)).toNat = c from rfl, bitsP_add hc]
    rfl
  unfold sucLV uLV
  ((repeat ((conv => whnf); first | refine brT ?_ | refine brF ?_)); conv => whnf)
  refine ⟨false, 6, by kernel_rfl, ?_⟩
  ((repeat ((conv => whnf); first | refine brT ?_ | refine brF ?_)); conv => whnf)
  refine ⟨rfl, _, _, rfl, rfl, ?_⟩
  ((repeat ((conv => whnf); first | refine brT ?_ | refine brF ?_)); conv => whnf)
  refine ⟨rfl, rfl, ?_⟩
  ((repeat ((conv => whnf); first | refine brT ?_ | refine brF ?_)); conv => whnf)
  refine ⟨by omega, ?_⟩
  ((repeat ((conv => whnf); first | refine brT ?_ | refine brF ?_)); conv => whnf)
  rw [hb]
  ((repeat ((conv => whnf); first | refine brT ?_ | refine brF ?_)); conv => whnf)
  refine ⟨rfl, rfl, _, _, _, rfl, rfl, rfl, rfl, ?_⟩
  ((repeat ((conv => whnf); first | refine brT ?_ | refine brF ?_)); conv => whnf)
  exact ⟨[], rfl, rfl, .inr ⟨[.old 0], trivial, ⟨rfl, rfl, trivial⟩, rfl⟩⟩
theorem stp_in {ps : List Per} {x : Cus} {y : Int} {I : Nat → Bool} {p c : Nat} {M : Nat → Bool} {out out' : List Nat} (hpc : p < c) (hc : c < ps.length) (ok : Ok ps I (M, out)) (hS : ∀ m, M m = true → p < m → clo ps x y I out m) (hM : M c = false)
    (ho : out' = out ∨ out' = out ++ [c]) : Ok ps I (insP M c, out') ∧ ∀ m, insP M c m = true → c < m → clo ps x y I out' m := by
  have hO : c ∉ out := fun e => by have := ok.o c e; simp only at this; rw [hM] at this; cases this
  have hsub : ∀ q ∈ out', q ∈ out ∨ q = c := fun q hq => by
    rcases ho with rfl | rfl
    · exact .inl hq
    · rcases List.mem_append.1 hq with h | h
      · exact .inl h
      · simp at h; exact .inr h
  refine ⟨⟨fun q hq => ?_, fun q hq => ?_, ?_, fun q hq => ?_⟩, fun m hm hcm => ?_⟩
  · simp only [insP]; split
    · rfl
    · exact ok.i q hq
  · simp only [insP]; split
    · rfl
    · rename_i e; rcases hsub q hq with h | h
      · exact ok.o q h
      · exact absurd h e
  · rcases ho with rfl | rfl
    · exact ok.nd
    · rw [List.nodup_append]
      refine ⟨ok.nd, by simp, fun a ha b hb => ?_⟩
      simp at hb; subst hb
      intro e2; subst e2
      exact hO ha
  · rcases hsub q hq with h | h
    · exact ok.lt q h
    · subst h; exact hc
  · simp only [insP] at hm
    rw [if_neg (by omega)] at hm
    have := hS m hm (by omega)
    rcases ho with rfl | rfl
    · exact this
    · intro q hq
      rcases this q hq with h | h
      · exact .inl h
      · exact .inr (List.mem_append_left _ h)
theorem addBelow_h {ps : List Per} {us : List Uni} (hf : famOk ps us = true) (x : Cus) (y : Int) (I : Nat → Bool) : ∀ (d p : Nat), ps.length ≤ p + d → p < ps.length → ∀ S : (Nat → Bool) × List Nat, Ok ps I S → (∀ m, S.1 m = true → p < m → clo ps x y I S.2 m) →
    HSpec env.P 68 [.hp 0 1 [0], .int .i64 (p : Int)] [.tree 88 8 [sucLV ps us x y S]] (.tup []) [.tree 88 8 [sucLV ps us x y (addI ps x y d p S)]]
  | 0, p, h, hp, S, ok, hc => by omega
  | d + 1, p, h, hp, S, ok, hc => by
    refine HSpec_of_code (E := env.x [68, 104] 1) env_ok.x (fn := Try.f68) Try.func68 rfl Try.call68 _ _ _ _ ?_
    have hO : FSpec env.P 62 [famLV ps us, x.lv, .int .i64 (p : Int)] (.own 3 1 ((ordL ps x (p : Int)).map natLV)) := FSpec_of_HSpec (ordered_h ps us x (p : Int) (fam_40 hf)) (by simp [exW])
    unfold sucLV famLV Cus.lv uLV
    unfold famLV Cus.lv at hO
    ((repeat ((conv => whnf); first | refine brT ?_ | refine brF ?_)); conv => whnf)
    refine ⟨true, by kernel_rfl, ?_⟩
    ((repeat ((conv => whnf); first | refine brT ?_ | refine brF ?_)); conv => whnf)
    refine ⟨rfl, by simp, _, rfl, rfl, by simp, ?_⟩
    ((repeat ((conv => whnf); first | refine brT ?_ | refine brF ?_)); conv => whnf)
    refine ⟨rfl, by simp, _, rfl, rfl, rfl, ?_⟩
    ((repeat ((conv => whnf); first | refine brT ?_ | refine brF ?_)); conv => whnf)
    refine ⟨rfl, by simp, _, rfl, rfl, by simp, ?_⟩
    ((repeat ((conv => whnf); first | refine brT ?_ | refine brF ?_)); conv => whnf)
    refine ⟨rfl, by simp, _, rfl, rfl, rfl, ?_⟩
    ((repeat ((conv => whnf); first | refine brT ?_ | refine brF ?_)); conv => whnf)
    refine ⟨_, hO, ?_⟩
    have hLm : ∀ c ∈ ordL ps x (p : Int), p < c ∧ c < ps.length := fun c hc => ⟨(ordL_mem (fam_pi hf) hc).2.1, (ordL_mem (fam_pi hf) hc).1⟩
    have hLl := ordL_len ps x (p : Int)
    have h40 := fam_40 hf
    have hRes : addI ps x y (d + 1) p S = (ordL ps x (p : Int)).foldl (stpI ps x y (addI ps x y d)) S := rfl
    rw [hRes]
    clear hRes hO
    generalize ordL ps x (p : Int) = L at hLm hLl
    have hN := nats_len L
    ((repeat ((conv => whnf); first | refine brT ?_ | refine brF ?_)); conv => whnf)
    intro _
    rw [hN]
    ((repeat ((conv => whnf); first | refine brT ?_ | refine brF ?_)); conv => whnf)
    refine loop_ruleR (α := Nat) [.old 0] (fun k => [(18, .int .i64 (k : Int))]) (fun k => [.tree 88 8 [sucLV ps us x y ((L.take k).foldl (stpI ps x y (addI ps x y d)) S)]]) (fun k => L.length - k)
      (fun k => k ≤ L.length ∧ Ok ps I ((L.take k).foldl (stpI ps x y (addI ps x y d)) S) ∧ ∀ m, ((L.take k).foldl (stpI ps x y (addI ps x y d)) S).1 m = true → p < m → clo ps x y I ((L.take k).foldl (stpI ps x y (addI ps x y d)) S).2 m) 0 ⟨Nat.zero_le _, ok, hc⟩ ?_ ?_
    · refine ⟨?_, ⟨rfl, rfl, trivial⟩, rfl⟩
      ((repeat ((conv => whnf); refine ⟨rfl, rfl, ?_⟩)); trivial)
    rintro k ⟨hk, okk, hck⟩
    generalize hK : kk _ = KK
    ((repeat ((conv => whnf); first | refine brT ?_ | refine brF ?_)); conv => whnf)
    (refine ⟨fun g1 => ?_, fun g1 => ?_⟩ <;> rw [g1])
    · have hlt : k < L.length := by rw [ltI_t] at g1; omega
      have e := step_i hlt (by unfold Go.maxLen; omega)
      obtain ⟨hpc, hcn⟩ := hLm L[k] (List.getElem_mem hlt)
      have hg : (L.map natLV)[k]? = some (.int .i64 (L[k] : Int)) := by rw [List.getElem?_map, List.getElem?_eq_getElem hlt]; rfl
      have hgp : (ps.map Per.lv)[L[k]]? = some ps[L[k]].lv := by simp [hcn]
      have hst : (L.take (k + 1)).foldl (stpI ps x y (addI ps x y d)) S = stpI ps x y (addI ps x y d) ((L.take k).foldl (stpI ps x y (addI ps x y d)) S) L[k] := by
        rw [List.take_succ_eq_append_getElem hlt, List.foldl_append]; rfl
      have hal : alv ps y L[k] = aliveB ps[L[k]] y := by simp [alv, hcn]
      generalize L[k] = c at hpc hcn hg hgp hst hal
      have hW := stpI_ok (rec := addI ps x y d) (x := x) (y := y) hpc hcn (fun S' ok' hS' => addI_ok (fam_pi hf) x y I d c (by omega) S' ok' hS') okk hck
      have hfin : ∀ Q, Q = stpI ps x y (addI ps x y d) ((L.take k).foldl (stpI ps x y (addI ps x y d)) S) c → Q = (L.take (k + 1)).foldl (stpI ps x y (addI ps x y d)) S := fun Q h => by rw [h, hst]
      have hIn : k + 1 ≤ L.length ∧ Ok ps I ((L.take (k + 1)).foldl (stpI ps x y (addI ps x y d)) S) ∧ ∀ m, ((L.take (k + 1)).foldl (stpI ps x y (addI ps x y d)) S).1 m = true → p < m → clo ps x y I ((L.take (k + 1)).foldl (stpI ps x y (addI ps x y d)) S).2 m := by
        rw [hst]; exact ⟨hlt, hW.ok, hW.cl⟩
      have hai := alive_impl ps[c] y
      generalize ps[c] = q at hgp hal hai
      obtain ⟨nm, sx, fa, mo, bo, di⟩ := q
      unfold sucLV famLV Cus.lv uLV
      generalize hS : (L.take k).foldl (stpI ps x y (addI ps x y d)) S = Sk at okk hck hW hst hfin
      obtain ⟨M, out⟩ := Sk
      ((repeat ((conv => whnf); first | refine brT ?_ | refine brF ?_)); conv => whnf)
      refine ⟨k, _, rfl, hg, rfl, ?_⟩
      ((repeat ((conv => whnf); first | refine brT ?_ | refine brF ?_)); conv => whnf)
      refine ⟨true, by kernel_rfl, ?_⟩
      ((repeat ((conv => whnf); first | refine brT ?_ | refine brF ?_)); conv => whnf)
      refine ⟨rfl, by simp, _, rfl, rfl, by simp, ?_⟩
      ((repeat ((conv => whnf); first | refine brT ?_ | refine brF ?_)); conv => whnf)
      refine ⟨rfl, by simp, _, rfl, rfl, by simp, ?_⟩
      ((repeat ((conv => whnf); first | refine brT ?_ | refine brF ?_)); conv => whnf)
      refine ⟨rfl, by simp, _, rfl, rfl, rfl, ?_⟩
      ((repeat ((conv => whnf); first | refine brT ?_ | refine brF ?_)); conv => whnf)
      refine ⟨c, _, rfl, hgp, rfl, ?_⟩
      ((repeat ((conv => whnf); first | refine brT ?_ | refine brF ?_)); conv => whnf)
      refine ⟨rfl, by simp, _, rfl, rfl, by simp, ?_⟩
      ((repeat ((conv => whnf); first | refine brT ?_ | refine brF ?_)); conv => whnf)
      refine ⟨rfl, by simp, _, rfl, rfl, rfl, ?_⟩
      ((repeat ((conv => whnf); first | refine brT ?_ | refine brF ?_)); conv => whnf)
      refine ⟨_, hai, ?_⟩
      ((repeat ((conv => whnf); first | refine brT ?_ | refine brF ?_)); conv => whnf)
      refine ⟨rfl, by simp, _, rfl, rfl, by simp, ?_⟩
      ((repeat ((conv => whnf); first | refine brT ?_ | refine brF ?_)); conv => whnf)
      refine ⟨rfl, _, _, rfl, rfl, ?_⟩
      ((repeat ((conv => whnf); first | refine brT ?_ | refine brF ?_)); conv => whnf)
      refine ⟨rfl, rfl, ?_⟩
      ((repeat ((conv => whnf); first | refine brT ?_ | refine brF ?_)); conv => whnf)
      have hhas := has_spec ps.length M c hcn h40
      unfold uLV at hhas
      refine ⟨_, hhas, ?_⟩
      ((repeat ((conv => whnf); first | refine brT ?_ | refine brF ?_)); conv => whnf)
      have skip : (M c || (notB (alv ps y c) && notB x.repr)) = true → stpI ps x y (addI ps x y d) (M, out) c = (M, out) := fun h => by
        unfold stpI; simp only [h]
      have go1 : (M c || (notB (alv ps y c) && notB x.repr)) = false → stpI ps x y (addI ps x y d) (M, out) c = addI ps x y d c (insP M c, match alv ps y c with | true => out ++ [c] | false => out) := fun h => by
        unfold stpI; (simp only [h]) <;> rfl
      rw [hal] at skip go1
      generalize aliveB ⟨nm, sx, fa, mo, bo, di⟩ y = A at skip go1 hal ⊢
      cases hM : M c
      · cases A
        · ((repeat ((conv => whnf); first | refine brT ?_ | refine brF ?_)); conv => whnf)
          rw [show notB false = true by simp [notB]]
          ((repeat ((conv => whnf); first | refine brT ?_ | refine brF ?_)); conv => whnf)
          refine ⟨rfl, by simp, _, rfl, rfl, by simp, ?_⟩
          ((repeat ((conv => whnf); first | refine brT ?_ | refine brF ?_)); conv => whnf)
          refine ⟨rfl, by simp, _, rfl, rfl, by simp, ?_⟩
          ((repeat ((conv => whnf); first | refine brT ?_ | refine brF ?_)); conv => whnf)
          refine ⟨rfl, _, _, rfl, rfl, ?_⟩
          ((repeat ((conv => whnf); first | refine brT ?_ | refine brF ?_)); conv => whnf)
          refine ⟨rfl, rfl, ?_⟩
          ((repeat ((conv => whnf); first | refine brT ?_ | refine brF ?_)); conv => whnf)
          (refine ⟨fun g5 => ?_, fun g5 => ?_⟩ <;> rw [g5])
          · have e5 := hfin (M, out) (by rw [skip (by rw [hM, g5]; simp [notB])])
            ((repeat ((conv => whnf); first | refine brT ?_ | refine brF ?_)); conv => whnf)
            subst hK
            refine round_endR [.old 0] (k + 1) hIn (by omega) ⟨?_, ⟨rfl, congrArg (fun Q => Blk.tree 88 8 [sucLV ps us x y Q]) e5, trivial⟩, rfl⟩
            ((repeat ((conv => whnf); first | refine ⟨rfl, e, ?_⟩ | refine ⟨rfl, rfl, ?_⟩)); trivial)
          · have e5 := hfin _ (go1 (by rw [hM, g5]; simp [notB])).symm
            have hIn2 := stp_in hpc hcn okk hck hM (.inl rfl)
            have hIH := addBelow_h hf x y I d c (by omega) hcn (insP M c, out) hIn2.1 hIn2.2
            have hAd := add_h ps us x y (M, out) c hcn h40
            unfold sucLV famLV Cus.lv uLV at hAd
            ((repeat ((conv => whnf); first | refine brT ?_ | refine brF ?_)); conv => whnf)
            refine ⟨rfl, by simp, _, rfl, rfl, by simp, ?_⟩
            ((repeat ((conv => whnf); first | refine brT ?_ | refine brF ?_)); conv => whnf)
            refine ⟨[0], _, _, _, _, hAd, rfl, rfl, rfl, trivial, ?_⟩
            ((repeat ((conv => whnf); first | refine brT ?_ | refine brF ?_)); conv => whnf)
            unfold sucLV famLV Cus.lv uLV at hIH
            refine ⟨[0], _, _, _, _, hIH, rfl, rfl, rfl, trivial, ?_⟩
            ((repeat ((conv => whnf); first | refine brT ?_ | refine brF ?_)); conv => whnf)
            subst hK
            refine round_endR [.old 0] (k + 1) hIn (by omega) ⟨?_, ⟨rfl, congrArg (fun Q => Blk.tree 88 8 [sucLV ps us x y Q]) e5, trivial⟩, rfl⟩
            ((repeat ((conv => whnf); first | refine ⟨rfl, e, ?_⟩ | refine ⟨rfl, rfl, ?_⟩)); trivial)
        · have e5 := hfin _ (go1 (by rw [hM]; simp [notB])).symm
          have hIn2 := stp_in hpc hcn okk hck hM (.inr rfl)
          have hIH := addBelow_h hf x y I d c (by omega) hcn (insP M c, out ++ [c]) hIn2.1 hIn2.2
          have hAd := add_h ps us x y (M, out) c hcn h40
          have hol : (out ++ [c]).length ≤ ps.length := hIn2.1.len
          unfold sucLV famLV Cus.lv uLV at hAd
          ((repeat ((conv => whnf); first | refine brT ?_ | refine brF ?_)); conv => whnf)
          rw [show notB true = false by simp [notB]]
          ((repeat ((conv => whnf); first | refine brT ?_ | refine brF ?_)); conv => whnf)
          refine ⟨rfl, by simp, _, rfl, rfl, by simp, ?_⟩
          ((repeat ((conv => whnf); first | refine brT ?_ | refine brF ?_)); conv => whnf)
          refine ⟨[0], _, _, _, _, hAd, rfl, rfl, rfl, trivial, ?_⟩
          ((repeat ((conv => whnf); first | refine brT ?_ | refine brF ?_)); conv => whnf)
          refine ⟨rfl, by simp, _, rfl, rfl, by simp, ?_⟩
          ((repeat ((conv => whnf); first | refine brT ?_ | refine brF ?_)); conv => whnf)
          refine ⟨rfl, _, _, rfl, rfl, ?_⟩
          ((repeat ((conv => whnf); first | refine brT ?_ | refine brF ?_)); conv => whnf)
          refine ⟨rfl, ?_⟩
          have e6 : out.map natLV ++ [LV.int .i64 (c : Int)] = (out ++ [c]).map natLV := by rw [List.map_append]; rfl
          ((repeat ((conv => whnf); first | refine brT ?_ | refine brF ?_)); conv => whnf)
          refine ⟨rfl, ?_, ?_, ?_⟩
          · rw [e6, List.length_map]; unfold Go.maxLen; omega
          · rw [e6, List.length_map]; show (out ++ [c]).length * 8 ≤ _; omega
          rw [e6]
          ((repeat ((conv => whnf); first | refine brT ?_ | refine brF ?_)); conv => whnf)
          refine ⟨rfl, by simp, _, rfl, rfl, by simp, ?_⟩
          ((repeat ((conv => whnf); first | refine brT ?_ | refine brF ?_)); conv => whnf)
          refine ⟨rfl, ?_⟩
          ((repeat ((conv => whnf); first | refine brT ?_ | refine brF ?_)); conv => whnf)
          refine ⟨rfl, rfl, _, _, _, rfl, rfl, rfl, rfl, ?_⟩
          ((repeat ((conv => whnf); first | refine brT ?_ | refine brF ?_)); conv => whnf)
          unfold sucLV famLV Cus.lv uLV at hIH
          refine ⟨[0], _, _, _, _, hIH, rfl, rfl, rfl, trivial, ?_⟩
          ((repeat ((conv => whnf); first | refine brT ?_ | refine brF ?_)); conv => whnf)
          subst hK
          refine round_endR [.old 0] (k + 1) hIn (by omega) ⟨?_, ⟨rfl, congrArg (fun Q => Blk.tree 88 8 [sucLV ps us x y Q]) e5, trivial⟩, rfl⟩
          ((repeat ((conv => whnf); first | refine ⟨rfl, e, ?_⟩ | refine ⟨rfl, rfl, ?_⟩)); trivial)
      · have e5 := hfin (M, out) (by rw [skip (by rw [hM]; rfl)])
        ((repeat ((conv => whnf); first | refine brT ?_ | refine brF ?_)); conv => whnf)
        subst hK
        refine round_endR [.old 0] (k + 1) hIn (by omega) ⟨?_, ⟨rfl, congrArg (fun Q => Blk.tree 88 8 [sucLV ps us x y Q]) e5, trivial⟩, rfl⟩
        ((repeat ((conv => whnf); first | refine ⟨rfl, e, ?_⟩ | refine ⟨rfl, rfl, ?_⟩)); trivial)
    · have h4 : k = L.length := by rw [ltI_f] at g1; omega
      subst h4
      subst hK
      have e9 : (L.take L.length).foldl (stpI ps x y (addI ps x y d)) S = L.foldl (stpI ps x y (addI ps x y d)) S := by rw [List.take_length]
      rw [e9]
      unfold sucLV famLV Cus.lv uLV
      ((repeat ((conv => whnf); first | refine brT ?_ | refine brF ?_)); conv => whnf)
      exact ⟨[], rfl, rfl, .inr ⟨[.old 0], trivial, ⟨rfl, rfl, trivial⟩, rfl⟩⟩
end Go.Proofs.Ytbiagkccgijdlaa

