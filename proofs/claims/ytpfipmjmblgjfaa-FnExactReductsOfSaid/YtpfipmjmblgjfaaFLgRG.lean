/- The statement 'for .. := range iterator' is sound; the contract of a function that holds one. -/
import Derived.Test.YtpfipmjmblgjfaaFLgRF
namespace Go.Lg
variable [GI]
set_option linter.unusedSectionVars false
set_option linter.unusedVariables false
set_option linter.unusedSimpArgs false
open Go.RowKit

section
variable {E : Env} {X : Nat → Prop} {B : Nat} {W0 : Orig}

/-- Behind the iterator. -/
theorem range_end {X2 : Nat → Prop} {tsW : List LV} {a : Act} {l D S : Nat} {r r' : Loop} {W : World} {O Y : Nat → Prop} {H : List Blk} {pl : Nat → PV} (jc : JC X B W0 X2 tsW a l D S r W O Y H pl) (xl : X2 l) (xD : X2 D) (hD : D ≠ l)
    (h0 : W0.w.heap.size ≤ D) (hl0 : W0.w.heap.size ≤ l) : SR X B W0 false H.length ⟨tsW, H⟩ (a.ap [{ target := .collected D, args := #[] }]) (W.putObj l (.loop r')) :=
  ⟨a, _, ⟨W.putObj l (.loop r'), H, pl⟩, pl, D, rfl, rfl, jc.sim.turn (l := l) (.inl xl) (Nat.le_trans jc.bk.base.1 hl0) (.loop r'), .inl xD, h0, (World.putObj_heap_other hD).trans jc.dfr, jc.bk.put hl0 (.loop r')⟩

theorem rangeR_sound (hE : EnvOK E) {f : Operand} {ps : Array Tmp} {assign body : Code} {k : Nat} {ts : List LV} {H : List Blk} {K : Bool → Nat → Ex → List LV → List Blk → Prop} {a : Act} {w : World} {pl : Nat → PV} {Q : Exit → Act → World → Prop} {n : Nat}
    (hK : ∀ fr k e ts H a w, K fr k e ts H → SR X B W0 fr k ⟨ts, H⟩ a w → Q e.toExit a w) (h : rangeR E f ps assign body k ts H K) (hk : W0.H.length = k) (s : Sim X B W0 ⟨ts, H⟩ a w pl) :
    (Code.rangeFunc f ps assign body).wpIn Fence.wide n E.P Q a w := by
  unfold rangeR at h
  obtain ⟨hnd, tsW, HV, hw, h⟩ := h
  simp only [Bool.and_eq_true] at hnd
  obtain ⟨pl0, s⟩ := s.weakAny hw hk.symm
  have hfv := ev_sound s f
  cases e : ev tsW f <;> rw [e] at h <;> try exact h.elim
  rename_i g caps
  have e' : ev (St.mk tsW HV).tmps f = .clos g caps := e
  rw [e'] at hfv
  simp only [RT, RT1, RC] at hfv
  obtain ⟨cv, h1, h2⟩ := hfv
  simp only [List.cons.injEq, and_true] at h1
  obtain ⟨hcap, h⟩ := h
  obtain ⟨hcl, hcp⟩ := RCs_points caps _ hcap h2
  obtain ⟨caps', HW, ⟨xs, I, hg, hI0, hlen, hxs, hround, hdone⟩, s, h5, _, h6⟩ := frzCaps_sound caps HV cv.toList _ s hcl hcp h
  unfold GSpec at hg
  obtain ⟨hc, hg⟩ := hg
  have d0 : a.defers = [] := s.defers
  refine wpIn_rangeFunc fun fn _ => ?_
  generalize hrec : (fun (st : LoopState) (pe : Option Code) => ({ state := st, pending := pe, fn, tmps := a.tmps, params := ps, assign, body, defers := w.heap.size } : Loop)) = rec
  generalize hW1 : (w.alloc (.deferred (some []))).alloc (.loop (rec .ready none)) = W1
  have hsz : W1.heap.size = w.heap.size + 2 := by rw [← hW1]; simp
  have hL1 : W1.heap[w.heap.size + 1]? = some (.loop (rec .ready none)) := by
    rw [← hW1]; have := World.alloc_heap_new (w.alloc (.deferred (some []))) (.loop (rec .ready none)); rwa [World.size_alloc] at this
  have hD1 : W1.heap[w.heap.size]? = some (.deferred (some [])) := by
    rw [← hW1]; exact (Below.heap_alloc _ _ _ (by simp)).trans (World.alloc_heap_new w _)
  have hb1 : Below w.heap.size w W1 := by
    rw [← hW1]; exact ((Below.refl _ w).alloc (Nat.le_refl _) _).alloc (by simp) _
  generalize hX2 : (fun b => X b ∨ (b = w.heap.size ∨ b = w.heap.size + 1)) = X2
  have s1 : Sim X2 B ⟨W1, HW, pl0⟩ ⟨tsW, HW⟩ a W1 pl0 := by
    rw [← hX2]; exact s.addX hb1 fun b hb => by rcases hb with rfl | rfl <;> omega
  have xl : X2 (w.heap.size + 1) := by rw [← hX2]; exact .inr (.inr rfl)
  have xD : X2 w.heap.size := by rw [← hX2]; exact .inr (.inl rfl)
  have xs2 : ∀ b, X b → X2 b := fun b hb => by rw [← hX2]; exact .inl hb
  have h0S : W0.w.heap.size ≤ w.heap.size := s.good.below.size
  have far0 : W0.w.heap.size ≤ W1.heap.size := by omega
  have hDl : w.heap.size ≠ w.heap.size + 1 := by omega
  have leO : (pctx (owned X HW pl0) w).Le (pctx (owned X2 HW pl0) W1) := ⟨hb1.size, fun b hb _ => hb1.block b hb, fun b hb o => by
    rcases o with o | o
    · rw [← hX2] at o
      rcases o with o | o
      · exact .inl o
      · have hb' : b < w.heap.size := hb
        rcases o with rfl | rfl <;> omega
    · exact .inr o, fun _ _ _ h => h.elim, fun _ _ _ _ h => h.elim⟩
  have hj0 : JJ I X B W0 X2 tsW a (w.heap.size + 1) w.heap.size W1.heap.size (rec .ready none) [] W1 (owned X2 HW pl0) (fun _ => False) := by
    have eX : (fun b => X2 b ∨ False) = X2 := funext fun b => propext ⟨fun h => h.elim id False.elim, .inl⟩
    refine ⟨HW, pl0, hI0, ⟨by rw [eX]; exact s1, ?_, hL1, hD1, rfl, fun _ _ h => h, fun _ h => h.elim, Nat.le_refl _⟩⟩
    exact Back.start (X' := fun b => X2 b ∨ False) (s.grow hb1) (fun b hb => .inl (xs2 b hb))
  have hcall := hg (w.heap.size + 1) (JJ I X B W0 X2 tsW a (w.heap.size + 1) w.heap.size W1.heap.size (rec .ready none)) (JE K X B W0 X2 tsW a (w.heap.size + 1) w.heap.size W1.heap.size rec) W1 (owned X2 HW pl0) cv
    s1.good.inv (by rintro pre W O Y ⟨H, pl, _, jc⟩; exact jc.sim.good.base'.2.2) (by rintro W O Y ⟨H, pl, e, _, _, jc⟩; exact jc.sim.good.base'.2.2)
    (by rintro pre W O Y ⟨H, pl, _, jc⟩; exact jc.lt) (by rintro W O Y ⟨H, pl, e, _, _, jc⟩; exact jc.lt)
    (by rintro pre W O Y W' Y' ⟨H, pl, hi, jc⟩ g; exact ⟨H, pl, hi, jc.grow far0 xl xD g⟩)
    (by rintro W O Y W' Y' ⟨H, pl, e, he, hkk, jc⟩ g; exact ⟨H, pl, e, he, hkk, jc.grow far0 xl xD g⟩)
    (by rw [h5]; simpa using hcl)
    (fun i x v hx hv => RT.mono leO _ _ (h6 i x v hx (by rw [← Array.getElem?_toList] at hv; simpa using hv)))
    (by
      rintro pre x W O Y vs ⟨H, pl, hi, jc⟩ ⟨post, hpost⟩ hvs hrt
      exact round_ok hE hrec.symm d0 hnd xl xD hDl (by omega) xs2 (hxs x (by rw [hpost]; simp)) (hlen pre H hi) jc (by rw [hk]; exact hround pre x post H hpost hi) hvs hrt)
    hj0
  have ea : ({ a with defers := [{ target := .collected w.heap.size, args := #[] }] ++ a.defers } : Act) = a.ap [{ target := .collected w.heap.size, args := #[] }] := by simp [Act.ap, d0]
  have hpost : ∀ e W2, ((∃ v, e = Ending.returned v) ∧ ((∃ O' Y, JJ I X B W0 X2 tsW a (w.heap.size + 1) w.heap.size W1.heap.size (rec .ready none) xs W2 O' Y) ∨ ∃ O' Y, JE K X B W0 X2 tsW a (w.heap.size + 1) w.heap.size W1.heap.size rec W2 O' Y)) →
      rangePost Fence.wide n E.P (w.heap.size + 1) Q { a with defers := [{ target := .collected w.heap.size, args := #[] }] ++ a.defers } e W2 := by
    rw [ea]
    rintro e W2 ⟨⟨v, rfl⟩, (⟨O', Y, H, pl, hi, jc⟩ | ⟨O', Y, H, pl, e, he, hkk, jc⟩)⟩
    · have hend := run_endLoop (P := E.P) jc.rcd (by rw [← hrec]; simp)
      have hp : (rec .ready none).pending = none := by rw [← hrec]
      rw [hp] at hend
      exact ⟨none, _, hend, hK false _ .normal _ _ _ _ (hdone H hi) (range_end jc xl xD hDl h0S (by omega))⟩
    · have hend := run_endLoop (P := E.P) jc.rcd (by rw [← hrec]; simp)
      have hp : (rec .done (exCode e)).pending = exCode e := by rw [← hrec]
      rw [hp] at hend
      refine ⟨exCode e, _, hend, ?_⟩
      cases e with
      | normal => cases he
      | exit id => exact wpIn_exit (hK false _ (.exit id) _ _ _ _ hkk (range_end jc xl xD hDl h0S (by omega)))
      | ret => exact wpIn_ret (hK false _ .ret _ _ _ _ hkk (range_end jc xl xD hDl h0S (by omega)))
  have hent : (Instr.enterLoop fn a.tmps ps assign body Fence.wide.round).run E.P w = .ok (w.heap.size + 1, [{ target := .collected w.heap.size, args := #[] }]) W1 := by
    rw [← hW1, ← hrec]; exact run_enterLoop_outer _ _ _ _ _
  have hres : (resolve a.eval (rangeCall f (w.heap.size + 1)) 0).run E.P W1 = .ok { target := .fn (.func g) cv, args := #[.func (.yield (w.heap.size + 1)) #[] #[]] } W1 := by
    simp only [resolve, h1]
    simp [go_sem]
  have hinv : (invoke (.fn (.func g) cv) #[.func (.yield (w.heap.size + 1)) #[] #[]]).run E.P W1 = .ok (.enter g (#[.func (.yield (w.heap.size + 1)) #[] #[]] ++ cv)) W1 := by
    simp [invoke, go_sem, hc]
  exact ⟨w.heap.size + 1, _, W1, _, W1, g, _, W1, hent, hres, fun _ _ => trivial, hinv, fun h => by simp [Fence.wide] at h, callsIn_wide.2 (hcall.mono hpost)⟩
end

/-! ### Code -/

def rRegion (E : Env) (c : Code) : CR := fun fr k ts H K => codeW (E.nk k) c ts H fun e ts' H' => rK K fr k e ts' H'
def rSkip : CR := fun fr k ts H K => K fr k .normal ts H
def rSeq (x y : CR) : CR := fun fr k ts H K => x fr k ts H fun fr' k' e ts' H' => match e with
  | .normal => y fr' k' ts' H' K
  | .exit id => rK K fr' k' (.exit id) ts' H'
  | .ret => rK K fr' k' .ret ts' H'
def rCond (c : Operand) (x y : CR) : CR := fun fr k ts H K => match ev ts c with
  | .bool b => br b (x fr k ts H K) (y fr k ts H K)
  | _ => False
def rBlock (id : Nat) (b : CR) : CR := fun fr k ts H K => b fr k ts H fun fr' k' e ts' H' => match e with
  | .normal => rK K fr' k' .normal ts' H'
  | .exit id' => match Nat.beq id' id with | true => rK K fr' k' .normal ts' H' | false => rK K fr' k' (.exit id') ts' H'
  | .ret => rK K fr' k' .ret ts' H'
def rExit (id : Nat) : CR := fun fr k ts H K => K fr k (.exit id) ts H
def rRet : CR := fun fr k ts H K => K fr k .ret ts H
def rNo : CR := fun _ _ _ _ _ => False
def rRange (E : Env) (f : Operand) (ps : Array Tmp) (assign body : Code) : CR := fun fr k ts H K => match fr with
  | true => rangeR E f ps assign body k ts H K
  | false => False

/-- Code that may hold one range over a function. -/
def codeR (E : Env) (c : Code) : CR :=
  Code.rec (motive := fun _ => CR) rSkip (fun id ops dr => rRegion E (.region id ops dr)) (fun _ _ x y => rSeq x y) (fun c _ _ x y => rCond c x y) (fun id _ b => rBlock id b) (fun c _ => rRegion E (.loop c)) (fun f ps a b _ _ => rRange E f ps a b) rExit
    (fun _ _ => rNo) (fun _ => rNo) (fun _ => rNo) rRet (fun _ => rNo) c

def noDefR : Code → Bool
  | .region _ ops _ => noDefL ops.toList
  | .seq x y => noDefR x && noDefR y
  | .cond _ x y => noDefR x && noDefR y
  | .block _ b => noDefR b
  | .loop b => noDefC b
  | .rangeFunc _ _ _ _ => true
  | .skip => true
  | .exit _ => true
  | .ret => true
  | _ => false

section
variable {E : Env} {X : Nat → Prop} {B : Nat} {W0 : Orig}

theorem piece_sound (hE : EnvOK E) {c : Code} (hd : noDefC c = true) {fr : Bool} {k : Nat} {ts : List LV} {H : List Blk} {K : Bool → Nat → Ex → List LV → List Blk → Prop} {a : Act} {w : World} {Q : Exit → Act → World → Prop} {n : Nat}
    (hK : ∀ fr k e ts H a w, K fr k e ts H → SR X B W0 fr k ⟨ts, H⟩ a w → Q e.toExit a w) (h : codeW (E.nk k) c ts H fun e ts' H' => rK K fr k e ts' H') (s : SR X B W0 fr k ⟨ts, H⟩ a w) : c.wpIn Fence.wide n E.P Q a w := by
  cases fr with
  | true =>
    obtain ⟨hk, pl, s⟩ := s
    have := codeW_in (E := E.nk k) hE.nk hk.symm (ro := none) (n := n) (D := []) c _ Q (fun e ts H a w pl kk s => by rw [ap_nil]; exact hK true k e ts H a w kk ⟨hk, pl, s⟩) hd ts H a w pl h s
    rw [ap_nil] at this
    exact this
  | false =>
    obtain ⟨a0, X', W1, pl, d, rfl, hk, s, hd', h0, hw, bk⟩ := s
    exact codeW_in (E := E.nk k) hE.nk hk.symm (ro := none) (n := n) (D := [{ target := .collected d, args := #[] }]) c _ Q (fun e ts H a w pl kk s => hK false k e ts H _ w kk ⟨a, X', W1, pl, d, rfl, hk, s, hd', h0, hw, bk⟩) hd ts H a0 w pl h s

theorem SR.ev {fr : Bool} {k : Nat} {ts : List LV} {H : List Blk} {a : Act} {w : World} (s : SR X B W0 fr k ⟨ts, H⟩ a w) {c : Operand} {b : Bool} (e : ev ts c = .bool b) : a.eval c = .bool b := by
  cases fr with
  | true =>
    obtain ⟨hk, pl, s⟩ := s
    have hv := ev_sound s c
    have e' : Go.Lg.ev (St.mk ts H).tmps c = .bool b := e
    rw [e'] at hv
    exact RT_bool hv
  | false =>
    obtain ⟨a0, X', W1, pl, d, rfl, hk, s, _⟩ := s
    have hv := ev_sound s c
    have e' : Go.Lg.ev (St.mk ts H).tmps c = .bool b := e
    rw [e'] at hv
    exact RT_bool hv

theorem codeR_sound (hE : EnvOK E) {n : Nat} : ∀ (c : Code) (K : Bool → Nat → Ex → List LV → List Blk → Prop) (Q : Exit → Act → World → Prop),
    (∀ fr k e ts H a w, K fr k e ts H → SR X B W0 fr k ⟨ts, H⟩ a w → Q e.toExit a w) → noDefR c = true → ∀ (fr : Bool) (k : Nat) (ts : List LV) (H : List Blk) (a : Act) (w : World),
    codeR E c fr k ts H K → SR X B W0 fr k ⟨ts, H⟩ a w → c.wpIn Fence.wide n E.P Q a w
  | .skip, K, Q, hK, hd, fr, k, ts, H, a, w, h, s => wpIn_skip (hK fr k .normal ts H a w h s)
  | .region id ops dr, K, Q, hK, hd, fr, k, ts, H, a, w, h, s => piece_sound hE (c := .region id ops dr) hd hK h s
  | .seq x y, K, Q, hK, hd, fr, k, ts, H, a, w, h, s => by
    have hd' : noDefR x = true ∧ noDefR y = true := by simpa [noDefR] using hd
    refine wpIn_seq (codeR_sound hE x _ _ (fun fr k e ts H a w kk s => ?_) hd'.1 fr k ts H a w (h : codeR E x fr k ts H _) s)
    cases e with
    | normal => exact codeR_sound hE y K Q hK hd'.2 fr k ts H a w kk s
    | exit id => exact hK fr k (.exit id) ts H a w kk s
    | ret => exact hK fr k .ret ts H a w kk s
  | .cond c x y, K, Q, hK, hd, fr, k, ts, H, a, w, h, s => by
    have hd' : noDefR x = true ∧ noDefR y = true := by simpa [noDefR] using hd
    have h' : rCond c (codeR E x) (codeR E y) fr k ts H K := h
    unfold rCond at h'
    cases e : ev ts c <;> rw [e] at h' <;> try exact h'.elim
    rename_i b
    simp only [br] at h'
    refine wpIn_cond_split (a := a) (t := b) (s.ev e) (fun hb => ?_) (fun hb => ?_)
    · exact codeR_sound hE x K Q hK hd'.1 fr k ts H a w (h'.1 hb) s
    · exact codeR_sound hE y K Q hK hd'.2 fr k ts H a w (h'.2 hb) s
  | .block id b, K, Q, hK, hd, fr, k, ts, H, a, w, h, s => by
    refine wpIn_block (codeR_sound hE b _ _ (fun fr k e ts H a w kk s => ?_) hd fr k ts H a w (h : codeR E b fr k ts H _) s)
    cases e with
    | normal => exact hK fr k .normal ts H a w kk s
    | exit id' =>
      show (if id' = id then _ else _)
      simp only at kk
      split at kk
      · rename_i hh
        rw [if_pos (Nat.eq_of_beq_eq_true hh)]; exact hK fr k .normal ts H a w kk s
      · rename_i hh
        rw [if_neg (Nat.ne_of_beq_eq_false hh)]; exact hK fr k (.exit id') ts H a w kk s
    | ret => exact hK fr k .ret ts H a w kk s
  | .loop b, K, Q, hK, hd, fr, k, ts, H, a, w, h, s => piece_sound hE (c := .loop b) hd hK h s
  | .exit id, K, Q, hK, hd, fr, k, ts, H, a, w, h, s => wpIn_exit (hK fr k (.exit id) ts H a w h s)
  | .ret, K, Q, hK, hd, fr, k, ts, H, a, w, h, s => wpIn_ret (hK fr k .ret ts H a w h s)
  | .rangeFunc f ps as bd, K, Q, hK, hd, fr, k, ts, H, a, w, h, s => by
    have h' : rRange E f ps as bd fr k ts H K := h
    cases fr with
    | false => exact h'.elim
    | true =>
      obtain ⟨hk, pl, s⟩ := s
      exact rangeR_sound hE hK h' hk s
  | .scope _, _, _, _, _, _, _, _, _, _, _, h, _ => False.elim h
  | .label _, _, _, _, _, _, _, _, _, _, _, h, _ => False.elim h
  | .goto _, _, _, _, _, _, _, _, _, _, _, h, _ => False.elim h
  | .refuse _, _, _, _, _, _, _, _, _, _, _, h, _ => False.elim h
end

/-- A contract, out of code that holds a range over a function. -/
theorem HSpec_of_codeR {E : Env} (hE : EnvOK E) {f : FuncId} {fn : Func} {c : Code} (hf : E.P.funcs[f]? = some fn) (hb : fn.body = some c) (hd : noDefR c = true)
    (hc : ∀ (vs : Array Value) (w : World), (callFunc f vs).run E.P w = .ok (.enter f vs) w) (args : List LV) (Hin : List Blk) (r : LV) (Hout : List Blk)
    (h : codeR E c true Hin.length (pad args fn.ntmps) Hin fun fr k e ts H => match e with | .exit _ => False | _ => retH E fn.results.toList ts H r Hout) (hn : E.n0 = Hin.length := by rfl) : HSpec E.P f args Hin r Hout := by
  unfold HSpec
  refine ⟨hc, fun X B w vs pl hg hsz hargs => ?_⟩
  refine callsIn_wide.1 (callsIn_of_wp_marks (n := 0) hf hb trivial (codeR_sound (X := X) (B := B) (W0 := ⟨w, Hin, pl⟩) hE c _ _ ?_ hd true Hin.length _ Hin _ w h ⟨rfl, pl, ?_⟩))
  · intro fr k e ts H a w' kk s
    have base : ∀ (a0 : Act) (w2 : World) (pl0 : Nat → PV), a0.tmps = a.tmps → retH E fn.results.toList ts H r Hout → Sim X B ⟨w, Hin, pl⟩ ⟨ts, H⟩ a0 w2 pl0 → LeavesIn Fence.wide 0 E.P fn a.tmps (fun e w' => ∃ v pl', e = .returned v ∧ Good X B ⟨w, Hin, pl⟩ Hout pl' w' ∧ RT (ctx X Hout pl' w') r v ∧ (ctx X Hin pl w).Le (ctx X Hout pl' w')) [] .returning w2 := by
      intro a0 w2 pl0 ht hr s0
      obtain ⟨v, pl', h1, h2, h3, h4⟩ := retH_sound hE s0 hn hr
      rw [ht] at h1
      exact ⟨v, h1, v, pl', rfl, h2, h3, h4⟩
    have all : retH E fn.results.toList ts H r Hout → LeavesInM Fence.wide 0 E.P fn a.tmps (fun e w' => ∃ v pl', e = .returned v ∧ Good X B ⟨w, Hin, pl⟩ Hout pl' w' ∧ RT (ctx X Hout pl' w') r v ∧ (ctx X Hin pl w).Le (ctx X Hout pl' w')) a.defers .returning w' := by
      intro hr
      cases fr with
      | true =>
        obtain ⟨_, pl0, s⟩ := s
        rw [s.defers]
        exact base a w' pl0 rfl hr s
      | false =>
        obtain ⟨a0, X', W1, pl0, d, rfl, hk, s, xd, h0, hw, bk⟩ := s
        have ed : (a0.ap [{ target := .collected d, args := #[] }]).defers = [{ target := .collected d, args := #[] }] := by
          show a0.defers ++ _ = _
          rw [s.defers]; rfl
        rw [ed]
        refine ⟨by simp, .inl ⟨d, _, rfl, run_takeDeferred ((s.good.keepX d xd).trans hw), ?_⟩⟩
        have s2 := s.turn (l := d) xd (Nat.le_trans bk.base.1 h0) (.deferred none)
        exact base a0 _ pl0 rfl hr ((((bk.put h0 (.deferred none)).fwd s2 bk.sub).to s2.self))
    cases e with
    | exit id => exact kk.elim
    | normal => exact all kk
    | ret => exact all kk
  · exact ⟨hg, rfl, by simp [pad, hsz], pad_RT hsz hargs, Ctx.Le.refl _⟩
end Go.Lg
