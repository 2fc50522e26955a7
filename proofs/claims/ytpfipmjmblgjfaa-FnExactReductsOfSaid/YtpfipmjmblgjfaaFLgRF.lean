/- The statement 'for .. := range iterator' is sound: a round. -/
import Derived.Test.YtpfipmjmblgjfaaFLgRE
namespace Go.Lg
variable [GI]
set_option linter.unusedSectionVars false
set_option linter.unusedVariables false
set_option linter.unusedSimpArgs false
open Go.RowKit

/-- The state of a function's run: before its range over a function (true), or behind it, a mark among its deferred calls (false). -/
def SR (X : Nat → Prop) (B : Nat) (W0 : Orig) (fr : Bool) (k : Nat) (s : St) (a : Act) (w : World) : Prop := match fr with
  | true => W0.H.length = k ∧ ∃ pl, Sim X B W0 s a w pl
  | false => ∃ a0 X' W1 pl d, a = Act.ap a0 [{ target := .collected d, args := #[] }] ∧ W1.H.length = k ∧ Sim X' B W1 s a0 w pl ∧ X' d ∧ W0.w.heap.size ≤ d ∧ W1.w.heap[d]? = some (.deferred (some [])) ∧ Back X B W0 X' W1

theorem setPs_fold {ps : Array Tmp} {vs : Array Value} {t : Array Value} : (ps.zip vs).foldl (fun tmps (x : Tmp × Value) => tmps.setIfInBounds x.1 x.2) t = (ps.toList.zip vs.toList).foldl (fun t (x : Nat × Value) => t.setIfInBounds x.1 x.2) t := by
  rw [← Array.foldl_toList, Array.toList_zip]

def JJ (I : List (List LV) → List Blk → Prop) (X : Nat → Prop) (B : Nat) (W0 : Orig) (X2 : Nat → Prop) (tsW : List LV) (a : Act) (l D S : Nat) (r : Loop) (pre : List (List LV)) : Inv3 :=
  fun W O Y => ∃ H pl, I pre H ∧ JC X B W0 X2 tsW a l D S r W O Y H pl
def JE (K : Bool → Nat → Ex → List LV → List Blk → Prop) (X : Nat → Prop) (B : Nat) (W0 : Orig) (X2 : Nat → Prop) (tsW : List LV) (a : Act) (l D S : Nat) (rec : LoopState → Option Code → Loop) : Inv3 :=
  fun W O Y => ∃ H pl e, (exCode e).isSome = true ∧ K false H.length e tsW H ∧ JC X B W0 X2 tsW a l D S (rec .done (exCode e)) W O Y H pl

section
variable {E : Env} {X : Nat → Prop} {B : Nat} {W0 : Orig} {X2 : Nat → Prop} {tsW : List LV} {a : Act} {l D S : Nat}

/-- Behind a round's body. -/
theorem after_round {r busy r' : Loop} {W : World} {O Y : Nat → Prop} {H : List Blk} {pl : Nat → PV} (jc : JC X B W0 X2 tsW a l D S r W O Y H pl) (xl : X2 l) (xD : X2 D) (hD : D ≠ l) (hl0 : W0.w.heap.size ≤ l) (hx2 : ∀ b, X b → X2 b)
    {ts2 : List LV} {H2 H3 : List Blk} {a2 : Act} {w2 : World} {pl2 : Nat → PV} (s3 : Sim (fun b => X2 b ∨ Y b) B ⟨W.putObj l (.loop busy), H, pl⟩ ⟨ts2, H2⟩ a2 w2 pl2) (hw : Weak W0.H.length tsW H2 tsW H3) :
    w2.heap[l]? = some (.loop busy) ∧ ∃ O' pl3, JC X B W0 X2 tsW a l D S r' (w2.putObj l (.loop r')) O' Y H3 pl3 ∧ (pctx O W).Le (pctx O' (w2.putObj l (.loop r'))) := by
  have lW : l < W.heap.size := (Array.getElem?_eq_some_iff.1 jc.rcd).1
  have hl3 : w2.heap[l]? = some (.loop busy) := (s3.good.keepX l (.inl xl)).trans (World.putObj_heap_same lW)
  have l2 : l < w2.heap.size := (Array.getElem?_eq_some_iff.1 hl3).1
  have s4 := s3.turn (l := l) (.inl xl) (Nat.le_trans jc.bk.base.1 hl0) (.loop r')
  have hY : ∀ b, X2 b → ¬ Y b := fun b hb => jc.dis b (by rw [jc.eqO]; exact .inl hb)
  have put2 : ∀ b, b ≠ l → ((W.putObj l (.loop busy)).putObj l (.loop r')).heap[b]? = W.heap[b]? := fun b hb => by
    rw [World.putObj_heap_other hb, World.putObj_heap_other hb]
  have le0 : (ctx (fun b => X2 b ∨ Y b) H pl W).Le (ctx (fun b => X2 b ∨ Y b) H pl ((W.putObj l (.loop busy)).putObj l (.loop r'))) :=
    ⟨by simp [ctx], fun b hb ho => put2 b fun e => ho (.inl (.inl (e ▸ xl))), fun _ _ h => h, fun _ _ _ h => h, fun _ _ _ _ h => h⟩
  have le4 : (ctx (fun b => X2 b ∨ Y b) H pl W).Le (ctx (fun b => X2 b ∨ Y b) H2 pl2 (w2.putObj l (.loop r'))) := le0.trans s4.le
  have hsz : W.heap.size ≤ (w2.putObj l (.loop r')).heap.size := le4.size
  -- the caller's temporaries in place of the round's
  have s5 : Sim (fun b => X2 b ∨ Y b) B ⟨w2.putObj l (.loop r'), H2, pl2⟩ ⟨tsW, H2⟩ a (w2.putObj l (.loop r')) pl2 :=
    ⟨s4.self.good, jc.sim.defers, jc.sim.size, fun t x hx => RT.mono le4 _ _ (jc.sim.tmps t x hx), Ctx.Le.refl _⟩
  obtain ⟨pl3, s6, ln⟩ := s5.weakSelf hw
  have dis6 : ∀ (id : Nat) (blk : Blk) (b : Nat), H3[id]? = some blk → blk.live → b ∈ blk.feet (pl3 id) → ¬ (X2 b ∨ Y b) := fun id blk b h1 h2 h3 => s6.good.apart id blk b h1 h2 h3
  have sub6 : ∀ b, Yo H3 pl3 b → Yo H2 pl2 b := fun b hb => by
    rcases ln.own b (.inr hb) with o | o
    · obtain ⟨id, blk, h1, h2, h3⟩ := hb
      exact absurd o (dis6 id blk b h1 h2 h3)
    · exact o
  have lnX : LeN X W0.H.length H2 pl2 H3 pl3 := ⟨ln.hs, ln.hp, fun b o => by
    rcases o with o | o
    · exact .inl o
    · exact .inr (sub6 b o)⟩
  refine ⟨hl3, owned X2 H3 pl3, pl3, ⟨s6, ?_, World.putObj_heap_same l2, ?_, rfl, ?_, jc.far, Nat.le_trans jc.now hsz⟩, hsz, fun b hb ho => ?_, fun b hb o => ?_, fun _ _ _ h => h.elim, fun _ _ _ _ h => h.elim⟩
  · exact (((jc.bk.put hl0 (.loop busy)).put hl0 (.loop r')).fwd s4 jc.bk.sub).weak lnX
  · rw [World.putObj_heap_other hD]
    exact ((s3.good.keepX D (.inl xD)).trans (World.putObj_heap_other hD)).trans jc.dfr
  · intro b o hy
    rcases o with o | ⟨id, blk, h1, h2, h3⟩
    · exact hY b o hy
    · exact dis6 id blk b h1 h2 h3 (.inr hy)
  · by_cases hy : Y b
    · have hbl : b ≠ l := fun e => hY l xl (e ▸ hy)
      exact (s4.good.keepX b (.inr hy)).trans (put2 b hbl)
    · refine le4.keep b hb fun o => ?_
      rcases o with (o | o) | o
      · exact ho (by show O b; rw [jc.eqO]; exact .inl o)
      · exact hy o
      · exact ho (by show O b; rw [jc.eqO]; exact .inr o)
  · show O b
    rw [jc.eqO]
    rcases o with o | o
    · exact .inl o
    · have o2 := sub6 b o
      rcases le4.own b hb (.inr o2) with (o' | o') | o'
      · exact .inl o'
      · obtain ⟨id, blk, h1, h2, h3⟩ := o2
        exact absurd (Or.inr o') (s4.good.apart id blk b h1 h2 h3)
      · exact .inr o'

/-- One round. -/
theorem round_ok (hE : EnvOK E) {fn : FuncId} {ps : Array Tmp} {assign body : Code} {rec : LoopState → Option Code → Loop} (hrec : rec = fun st pe => { state := st, pending := pe, fn, tmps := a.tmps, params := ps, assign, body, defers := D })
    (d0 : a.defers = []) (hnd : noDefC assign = true ∧ noDefC body = true) (xl : X2 l) (xD : X2 D) (hD : D ≠ l) (hl0 : W0.w.heap.size ≤ l) (hx2 : ∀ b, X b → X2 b) {I : List (List LV) → List Blk → Prop} {K : Bool → Nat → Ex → List LV → List Blk → Prop} {m : Nat}
    {pre : List (List LV)} {x : List LV} (hxl : x.length = ps.size) {W : World} {O Y : Nat → Prop} {H : List Blk} {pl : Nat → PV} (hHl : H.length = m) (jc : JC X B W0 X2 tsW a l D S (rec .ready none) W O Y H pl)
    (hacode : codeW (E.nk m) assign (setPs ps.toList x tsW) H fun e ts' H' => match e with
        | .normal => codeW (E.nk m) body ts' H' fun e ts'' H'' => ∃ H3, Weak W0.H.length tsW H'' tsW H3 ∧ match e with
          | .normal => I (pre ++ [x]) H3
          | .exit id => K false H3.length (.exit id) tsW H3
          | .ret => K false H3.length .ret tsW H3
        | _ => False)
    {vs : Array Value} (hvs : vs.size = x.length) (hrt : ∀ (i : Nat) y v, x[i]? = some y → vs[i]? = some v → RT (pctx (fun b => O b ∨ Y b) W) y v) :
    YieldAt Fence.wide 0 E.P l vs W fun e W' =>
      (e = .returned (.bool true) ∧ ∃ O', JJ I X B W0 X2 tsW a l D S (rec .ready none) (pre ++ [x]) W' O' Y ∧ (pctx O W).Le (pctx O' W')) ∨
      (e = .returned (.bool false) ∧ ∃ O', JE K X B W0 X2 tsW a l D S rec W' O' Y ∧ (pctx O W).Le (pctx O' W')) := by
  have hy := run_yield (P := E.P) (args := vs) jc.rcd (by rw [hrec, hvs, hxl])
  refine ⟨_, _, _, _, hy, ?_⟩
  have leP : (pctx (fun b => O b ∨ Y b) W).Le (ctx (fun b => X2 b ∨ Y b) H pl W) := ⟨Nat.le_refl _, fun _ _ _ => rfl, fun b _ o => by
    rcases o with (o | o) | o
    · left; rw [jc.eqO]; exact .inl o
    · exact .inr o
    · left; rw [jc.eqO]; exact .inr o, fun _ _ _ h => h.elim, fun _ _ _ _ h => h.elim⟩
  have sp := Sim.setPs ps.toList x vs.toList tsW a jc.sim (by simpa using hvs) (fun i y v hy hv => RT.mono leP _ _ (hrt i y v hy (by rw [← Array.getElem?_toList]; exact hv)))
  have eact : ({ tmps := (ps.zip vs).foldl (fun tmps (x : Tmp × Value) => tmps.setIfInBounds x.1 x.2) a.tmps, defers := [] } : Act) = { a with tmps := (ps.toList.zip vs.toList).foldl (fun t (x : Nat × Value) => t.setIfInBounds x.1 x.2) a.tmps } := by
    rw [setPs_fold, ← d0]
  have er : (rec .ready none).params = ps ∧ (rec .ready none).tmps = a.tmps ∧ (rec .ready none).assign = assign ∧ (rec .ready none).body = body ∧ (rec .ready none).fn = fn ∧ (rec .ready none).state = .ready := by rw [hrec]; exact ⟨rfl, rfl, rfl, rfl, rfl, rfl⟩
  obtain ⟨e1, e2, e3, e4, e5, e6⟩ := er
  rw [e1, e2, e3, e4, e5]
  refine roundIn_of_wpIn trivial ?_
  refine Eq.mp (congrArg (fun z => Code.wpIn _ _ _ assign _ z W) eact.symm) ?_
  rw [← ap_nil ({ a with tmps := (ps.toList.zip vs.toList).foldl (fun t (x : Nat × Value) => t.setIfInBounds x.1 x.2) a.tmps } : Act)]
  refine codeW_in (E := E.nk m) hE.nk (W0 := ⟨W, H, pl⟩) hHl.symm (ro := some l) (n := 0) (D := []) assign _ _ ?_ hnd.1 _ H _ W pl hacode sp
  intro e ts' H' a1 w1 pl1 kk s1
  cases e with
  | exit id => exact kk.elim
  | ret => exact kk.elim
  | normal =>
    rw [ap_nil]
    have hl1 : w1.heap[l]? = some (.loop (rec .ready none)) := (s1.good.keepX l (.inl xl)).trans jc.rcd
    refine ⟨_, run_beginRound hl1 e6, ?_⟩
    have s2 := s1.turn (l := l) (.inl xl) (Nat.le_trans jc.bk.base.1 hl0) (.loop { rec .ready none with state := .busy })
    rw [← ap_nil a1]
    refine codeW_in (E := E.nk m) hE.nk (W0 := ⟨W.putObj l (.loop { rec .ready none with state := .busy }), H, pl⟩) hHl.symm (ro := some l) (n := 0) (D := []) body _ _ ?_ hnd.2 _ H' _ _ pl1 kk s2
    rintro e ts'' H'' a2 w2 pl2 ⟨H3, hw3, kk⟩ s3
    have fin : ∀ (jump : Option Code), (Instr.endRound l jump).run E.P w2 = .ok (.bool jump.isNone) (w2.putObj l (.loop (rec (if jump.isNone then .ready else .done) jump))) := fun jump => by
      have := run_endRound (P := E.P) jump (after_round (r' := rec .ready none) jc xl xD hD hl0 hx2 s3 hw3).1
      rw [this, hrec]
    cases e with
    | normal =>
      obtain ⟨_, O', pl3, hj, hl⟩ := after_round (r' := rec .ready none) jc xl xD hD hl0 hx2 s3 hw3
      exact ⟨_, _, fin none, .inl ⟨rfl, O', ⟨H3, pl3, kk, hj⟩, hl⟩⟩
    | exit id =>
      obtain ⟨_, O', pl3, hj, hl⟩ := after_round (r' := rec .done (some (.exit id))) jc xl xD hD hl0 hx2 s3 hw3
      exact ⟨_, _, fin (some (.exit id)), .inr ⟨rfl, O', ⟨H3, pl3, .exit id, rfl, kk, hj⟩, hl⟩⟩
    | ret =>
      obtain ⟨_, O', pl3, hj, hl⟩ := after_round (r' := rec .done (some .ret)) jc xl xD hD hl0 hx2 s3 hw3
      exact ⟨_, _, fin (some .ret), .inr ⟨rfl, O', ⟨H3, pl3, .ret, rfl, kk, hj⟩, hl⟩⟩
end
end Go.Lg
