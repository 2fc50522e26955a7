/- Rows of rows: what is stored there is taken over, what is read there is opened; regions with such operations. -/
import Derived.Test.YtbiagkccgijdlaaGreatALgKD
namespace Go.Lg
variable [GI]
set_option linter.unusedSectionVars false
set_option linter.unusedVariables false
set_option linter.unusedSimpArgs false
open Go.RowKit

/-! ### What is handed over -/

mutual
/-- A reading whose handles are given away: their rows become its own. -/
def absK : LV → List Blk → (LV → List Blk → Prop) → Prop
  | .hs j m, H, K => match H[j]? with
    | some (.row false e k ys) => m = ys.length ∧ setHK H j .dead fun H' => K (.own e k ys) H'
    | _ => False
  | .st fs, H, K => absKs fs H fun gs H' => K (.st gs) H'
  | .int k n, H, K => K (.int k n) H
  | .bool b, H, K => K (.bool b) H
  | .lit b, H, K => K (.lit b) H
  | .str s, H, K => K (.str s) H
  | .nil, H, K => K .nil H
  | .sl xs, H, K => K (.sl xs) H
  | .ref c, H, K => K (.ref c) H
  | _, _, _ => False
def absKs : List LV → List Blk → (List LV → List Blk → Prop) → Prop
  | [], H, K => K [] H
  | x :: xs, H, K => absK x H fun y H' => absKs xs H' fun ys H'' => K (y :: ys) H''
end

section
variable {P : Program} {X : Nat → Prop} {B : Nat} {W0 : Orig} {ts : List LV} {H : List Blk} {a : Act} {pl : Nat → PV} {w : World} {T : Tab} {Z : ZTab}

structure AbsOK (H : List Blk) (pl : Nat → PV) (H1 : List Blk) (bs : List Nat) : Prop where
  len : H1.length = H.length
  sub : ∀ (i : Nat) (b : Blk), H1[i]? = some b → H[i]? = some b ∨ b = .dead
  nd : bs.Nodup
  src : ∀ c ∈ bs, ∃ (id : Nat) (blk : Blk), H[id]? = some blk ∧ blk.live ∧ c ∈ blk.feet (pl id) ∧ H1[id]? = some .dead

theorem AbsOK.refl : AbsOK H pl H [] := ⟨rfl, fun _ _ h => .inl h, List.nodup_nil, by simp⟩

theorem AbsOK.apart (g : Good X B W0 H pl w) {H1 : List Blk} {bs : List Nat} (h : AbsOK H pl H1 bs) {i : Nat} {b : Blk} (hi : H1[i]? = some b) (lv : b.live) : H[i]? = some b ∧ ∀ c ∈ b.feet (pl i), c ∉ bs := by
  have h0 : H[i]? = some b := by
    rcases h.sub i b hi with h | rfl
    · exact h
    · exact lv.elim
  refine ⟨h0, fun c hc hm => ?_⟩
  obtain ⟨id, blk, k1, k2, k3, k4⟩ := h.src c hm
  obtain rfl := g.inj i id b blk c h0 lv k1 k2 hc k3
  rw [k4] at hi; cases hi; exact lv

theorem AbsOK.step (g : Good X B W0 H pl w) {H1 : List Blk} {bs : List Nat} (h : AbsOK H pl H1 bs) {j : Nat} {e : TypeId} {k : Nat} {ys : List LV} (hj : H1[j]? = some (.row false e k ys)) :
    AbsOK H pl (H1.set j .dead) (bs ++ feet (pl j).v) := by
  obtain ⟨h0, hap⟩ := h.apart g hj trivial
  refine ⟨by simp [h.len], fun i b hi => ?_, List.nodup_append.2 ⟨h.nd, feet_nodup _, fun c hc d hd e => ?_⟩, fun c hc => ?_⟩
  · rcases set_get hi with ⟨_, rfl, _⟩ | ⟨_, h1⟩
    · exact .inr rfl
    · exact h.sub i b h1
  · subst e; exact hap c hd hc
  · rcases List.mem_append.1 hc with hc | hc
    · obtain ⟨id, blk, k1, k2, k3, k4⟩ := h.src c hc
      refine ⟨id, blk, k1, k2, k3, ?_⟩
      by_cases e : id = j
      · subst e; rw [List.getElem?_set_self (lt_of_get hj)]
      · rw [List.getElem?_set_ne (fun h => e h.symm)]; exact k4
    · exact ⟨j, _, h0, trivial, hc, by rw [List.getElem?_set_self (lt_of_get hj)]⟩

mutual
theorem absK_sound (g : Good X B W0 H pl w) : ∀ (x : LV) (H1 : List Blk) (K : LV → List Blk → Prop) (cs : List Value) (b0 : List Nat), AbsOK H pl H1 b0 → RC (ctx X H pl w) x cs → absK x H1 K →
    ∃ y H2 bs, K y H2 ∧ RRc w (owned X H pl) B y cs bs ∧ AbsOK H pl H2 (b0 ++ bs)
  | .hs j m, H1, K, cs, b0, ok, h, k => by
    simp only [absK] at k
    split at k
    · rename_i e kk ys hc
      obtain ⟨hm, k⟩ := k
      rw [setHK_eq] at k
      simp only [RC] at h
      obtain ⟨v, rfl, h1, h2, h3⟩ := h
      obtain ⟨h0, _⟩ := ok.apart g hc trivial
      obtain rfl := h3 _ ys h0 rfl hm
      obtain ⟨es, r1, r2, r3, r4⟩ := g.ok j _ h0
      refine ⟨_, _, feet (pl j).v, k, ?_, ok.step g hc⟩
      simp only [RRc]
      exact ⟨_, es, rfl, r1, r2, r3, r4, rfl⟩
    · exact k.elim
  | .st fs, H1, K, cs, b0, ok, h, k => by
    rw [RC_st] at h
    simp only [absK] at k
    obtain ⟨ys, H2, bs, k1, k2, k3⟩ := absKs_sound g fs H1 _ cs b0 ok h k
    exact ⟨_, H2, bs, k1, by simp only [RRc]; exact k2, k3⟩
  | .int _ _, H1, K, cs, b0, ok, h, k => by simp only [absK] at k; exact ⟨_, H1, [], k, by unfold RRc; exact ⟨by simp only [RC] at h ⊢; exact h, rfl⟩, by simpa using ok⟩
  | .bool _, H1, K, cs, b0, ok, h, k => by simp only [absK] at k; exact ⟨_, H1, [], k, by unfold RRc; exact ⟨by simp only [RC] at h ⊢; exact h, rfl⟩, by simpa using ok⟩
  | .lit _, H1, K, cs, b0, ok, h, k => by simp only [absK] at k; exact ⟨_, H1, [], k, by unfold RRc; exact ⟨by simp only [RC] at h ⊢; exact h, rfl⟩, by simpa using ok⟩
  | .str _, H1, K, cs, b0, ok, h, k => by simp only [absK] at k; exact ⟨_, H1, [], k, by unfold RRc; exact ⟨by simp only [RC] at h ⊢; exact h, rfl⟩, by simpa using ok⟩
  | .nil, H1, K, cs, b0, ok, h, k => by simp only [absK] at k; exact ⟨_, H1, [], k, by unfold RRc; exact ⟨by simp only [RC] at h ⊢; exact h, rfl⟩, by simpa using ok⟩
  | .sl _, H1, K, cs, b0, ok, h, k => by simp only [absK] at k; exact ⟨_, H1, [], k, by unfold RRc; exact ⟨by simp only [RC] at h ⊢; exact h, rfl⟩, by simpa using ok⟩
  | .ref _, H1, K, cs, b0, ok, h, k => by simp only [absK] at k; exact ⟨_, H1, [], k, by unfold RRc; exact ⟨by simp only [RC] at h ⊢; exact h, rfl⟩, by simpa using ok⟩
  | .undef, _, _, _, _, _, _, k => by simp [absK] at k
  | .own _ _ _, _, _, _, _, _, _, k => by simp [absK] at k
  | .tup _, _, _, _, _, _, _, k => by simp [absK] at k
  | .clos _ _, _, _, _, _, _, _, k => by simp [absK] at k
  | .ifc _ _, _, _, _, _, _, _, k => by simp [absK] at k
  | .hp _ _ _, _, _, _, _, _, _, k => by simp [absK] at k
theorem absKs_sound (g : Good X B W0 H pl w) : ∀ (xs : List LV) (H1 : List Blk) (K : List LV → List Blk → Prop) (cs : List Value) (b0 : List Nat), AbsOK H pl H1 b0 → RCs (ctx X H pl w) xs cs → absKs xs H1 K →
    ∃ ys H2 bs, K ys H2 ∧ RRcs w (owned X H pl) B ys cs bs ∧ AbsOK H pl H2 (b0 ++ bs)
  | [], H1, K, cs, b0, ok, h, k => by
    simp only [absKs] at k
    simp only [RCs] at h
    exact ⟨_, H1, [], k, by unfold RRcs; exact ⟨h, rfl⟩, by simpa using ok⟩
  | x :: xs, H1, K, cs, b0, ok, h, k => by
    simp only [RCs] at h
    obtain ⟨c1, c2, rfl, h1, h2⟩ := h
    simp only [absKs] at k
    obtain ⟨y, H2, b1, k1, k2, k3⟩ := absK_sound g x H1 _ c1 b0 ok h1 k
    obtain ⟨ys, H3, b2, k4, k5, k6⟩ := absKs_sound g xs H2 _ c2 _ k3 h2 k1
    exact ⟨_, H3, b1 ++ b2, k4, by simp only [RRcs]; exact ⟨c1, c2, b1, b2, rfl, rfl, k2, k5⟩, by rw [← List.append_assoc]; exact k6⟩
end

/-! ### Stores -/

def storeT (T : Tab) (H : List Blk) (t : TypeId) (p x : LV) (K : List Blk → Prop) : Prop :=
  match T t with
  | none => False
  | some i => match p with
    | .hp id n (f :: q) => absK x H fun x' H1 => match H1[id]? with
      | some (.row _ e k xs) => n = xs.length ∧ fitT i x = true ∧ ∃ z y zs, xs[f]? = some z ∧ getP z q = some y ∧ same y x' = true ∧ xs.set f (setP z q x') = zs ∧ setHK H1 id (.row true e k zs) K
      | _ => False
    | _ => False

theorem op_storeT (hT : TabOK P T) {o : Oper} {t : TypeId} {p x : Operand} (ho : o.op = .store t p x) (s : Sim X B W0 ⟨ts, H⟩ a w pl) {K : LV → List Blk → Prop}
    (h : storeT T H t (ev ts p) (ev ts x) fun H' => K .undef H') : OpRes P o a w X B W0 ts H pl K := by
  have hp := ev_sound s p
  have hx := ev_sound s x
  have ex0 : ev (St.mk ts H).tmps x = ev ts x := rfl
  have ep0 : ev (St.mk ts H).tmps p = ev ts p := rfl
  rw [ex0] at hx
  rw [ep0] at hp
  unfold storeT at h
  cases hi : T t with
  | none => rw [hi] at h; exact h.elim
  | some i =>
    rw [hi] at h
    have hty := hT t i hi
    simp only at h
    split at h
    rotate_left
    · exact h.elim
    rename_i id n f q e
    rw [e] at hp
    simp only [RT, RT1, RC] at hp
    obtain ⟨u, h1, h2⟩ := hp
    simp at h1
    subst h1
    have okb : okBox (ev ts x) = true := by
      cases hh : ev ts x <;> rw [hh] at h <;> first | rfl | (simp [absK] at h)
    have hc := RT_cells hx okb
    obtain ⟨x', H1, bs, h, hrr, ok⟩ := absK_sound s.good _ _ _ _ [] AbsOK.refl hc h
    simp only [List.nil_append] at ok
    split at h
    rotate_left
    · exact h.elim
    rename_i t1 e1 k1 xs hid
    obtain ⟨hn, hf, z, y, zs, hz, hy, hsame, hzs, h⟩ := h
    rw [setHK_eq] at h
    obtain ⟨h0, hap⟩ := ok.apart s.good hid trivial
    have hxs : (a.eval x).cells.size = i.size := by
      have hl := RC.len _ _ hc
      rw [Array.length_toList] at hl
      rw [hl]
      cases hh : ev ts x <;> rw [hh] at hf <;> simp [fitT, LV.size] at hf ⊢ <;> omega
    obtain ⟨es, r1, r2, r3, r4⟩ := s.good.ok id _ h0
    -- what is owned below
    obtain ⟨F, hF, hFb, hFn⟩ : ∃ F, RRcs w (owned X H pl) B xs es F ∧ (∀ c ∈ F, c ∈ (Blk.row t1 e1 k1 xs).feet (pl id)) ∧ (feet (pl id).v ++ F).Nodup := by
      have nd := s.good.nd id _ h0 trivial
      cases t1 with
      | false => exact ⟨[], RRcs_of _ _ r2, by simp, by simpa using feet_nodup _⟩
      | true => exact ⟨_, r2, fun c hc => List.mem_append_right _ hc, nd⟩
    have hplace : RRc w (owned X H pl) B (.st xs) es F := by simp only [RRc]; exact hF
    have hg : getP (.st xs) (f :: q) = some y := by simp only [getP, hz]; exact hy
    obtain ⟨pre, d, post, b1, bx, b2, rfl, rfl, m1, m2, m3⟩ := RRc_place (f :: q) (.st xs) y es F hplace hg
    have hd : d.length = (a.eval x).cells.toList.length := by
      rw [RRc.len _ _ _ m2, RRc.len _ _ _ hrr]; exact (same_size _ _ hsame).symm
    have m3 := m3 x' _ bs hrr
    have esP : setP (.st xs) (f :: q) x' = .st zs := by simp only [setP, hz]; rw [hzs]
    rw [esP] at m3
    simp only [RRc] at m3
    have hv := h2.2.2.2.1 _ xs _ h0 rfl hn m1
    have hlz : zs.length = xs.length := by rw [← hzs]; simp
    have hjl := lt_of_get hz
    rcases r1.2 with ⟨_, h0'⟩ | ⟨g, cap, cur, hgv, hbg, hcur, hnc, hcm, hcs, htake⟩
    · omega
    have hlen : (pre ++ d ++ post).length = xs.length * k1 := r1.1
    rw [hgv] at hv
    obtain ⟨rest, hcurl⟩ : ∃ rest, cur.toList = (pre ++ d ++ post) ++ rest := ⟨cur.toList.drop (xs.length * k1), by rw [← htake, List.take_append_drop]⟩
    have hone := RRc.one _ _ _ hrr
    have hroom : pre.length + (a.eval x).cells.toList.length ≤ cur.size := by
      rw [← hd, ← Array.length_toList (xs := cur), hcurl]; simp
    have rr : (execOp a.eval o).run P w = .ok .skip (w.setRow g ((pre ++ (a.eval x).cells.toList ++ post) ++ rest).toArray) := by
      have := run_storeCells_at P g pre.length e1 (a.eval x).cells.toList 0 cur w hcur (by simpa using hroom) hone
      simp only [Nat.add_zero] at this
      have ecs : cur.toList.take pre.length ++ (a.eval x).cells.toList ++ cur.toList.drop (pre.length + (a.eval x).cells.toList.length) = (pre ++ (a.eval x).cells.toList ++ post) ++ rest := by
        rw [← hd, hcurl]
        simp [List.append_assoc]
      rw [ecs] at this
      simp only [execOp, ho, hv, bk, Instr.storeAt, Instr.sureAddr, storeVar]
      simp [run_sizeOf hty, hxs, this]
    have hb1 : hasBk (pl id).v = true := by rw [hgv]; rfl
    have hb2 : bk (pl id).v = g := by rw [hgv]; rfl
    have hsameT : same (.st xs) (.st zs) = true := by
      rw [← esP]; exact setP_same (f :: q) (.st xs) y _ hg hsame
    have inF : ∀ c, c ∈ (b1 ++ bs ++ b2) → c ∈ b1 ++ bx ++ b2 ∨ c ∈ bs := fun c hc => by
      simp only [List.mem_append] at hc ⊢
      rcases hc with (h | h) | h
      · exact .inl (.inl (.inl h))
      · exact .inr h
      · exact .inl (.inr h)
    have live0 : ∀ {c : Nat}, c ∈ (Blk.row t1 e1 k1 xs).feet (pl id) → c ∉ bs := fun {c} hc => hap c hc
    obtain ⟨g', hle⟩ := s.good.one (H' := H1.set id (.row true e1 k1 zs)) (pl' := upd pl id ⟨(pl id).v, b1 ++ bs ++ b2⟩) (id := id) (w' := w.setRow g ((pre ++ (a.eval x).cells.toList ++ post) ++ rest).toArray) (nb := .row true e1 k1 zs)
      (by simp [ok.len]) (by rw [List.getElem?_set_self (lt_of_get hid)])
      (fun i b hi hne lv => by
        rcases set_get hi with ⟨rfl, _⟩ | ⟨_, h⟩
        · exact absurd rfl hne
        · exact (ok.apart s.good h lv).1)
      (fun i hne => upd_other _ hne)
      (.inr ⟨_, h0, ⟨zs, rfl, hlz, fun p o'' hq => same_off p _ _ o'' hsameT hq⟩, by rw [upd_same]⟩)
      (fun c hc => by
        rw [upd_same] at hc
        rcases List.mem_append.1 hc with hc | hc
        · exact .inr ⟨id, _, h0, trivial, Blk.feet_head hc⟩
        · rcases inF c hc with hc | hc
          · exact .inr ⟨id, _, h0, trivial, hFb c hc⟩
          · obtain ⟨j, bj, q1, q2, q3, _⟩ := ok.src c hc; exact .inr ⟨j, bj, q1, q2, q3⟩)
      (fun i b c hi hne lv hc hn => by
        rw [upd_same] at hn
        rcases set_get hi with ⟨rfl, _⟩ | ⟨_, h⟩
        · exact hne rfl
        obtain ⟨k2, k3⟩ := ok.apart s.good h lv
        rcases List.mem_append.1 hn with hn | hn
        · exact hne (s.good.inj i id b _ c k2 lv h0 trivial hc (Blk.feet_head hn))
        · rcases inF c hn with hn | hn
          · exact hne (s.good.inj i id b _ c k2 lv h0 trivial hc (hFb c hn))
          · exact k3 c hc hn)
      (by
        rw [upd_same]
        have nb := ok.nd
        have d1 : ∀ c, c ∈ bs → c ∉ feet (pl id).v ∧ c ∉ b1 ∧ c ∉ b2 := fun c hc =>
          ⟨fun h => live0 (Blk.feet_head h) hc, fun h => live0 (hFb c (by simp [h])) hc, fun h => live0 (hFb c (by simp [h])) hc⟩
        show (feet (pl id).v ++ (b1 ++ bs ++ b2)).Nodup
        obtain ⟨n1, n2, n3⟩ := List.nodup_append.1 hFn
        obtain ⟨n4, n5, n6⟩ := List.nodup_append.1 n2
        obtain ⟨n7, n8, n9⟩ := List.nodup_append.1 n4
        refine List.nodup_append.2 ⟨n1, List.nodup_append.2 ⟨List.nodup_append.2 ⟨n7, nb, fun a ha b hb e => (d1 b hb).2.1 (e ▸ ha)⟩, n5, fun a ha b hb e => ?_⟩, fun a ha b hb e => ?_⟩
        · rcases List.mem_append.1 ha with ha | ha
          · exact n6 a (List.mem_append_left _ ha) b hb e
          · exact (d1 a ha).2.2 (e ▸ hb)
        · rcases inF b hb with hb | hb
          · exact n3 a ha b hb e
          · exact (d1 b hb).1 (e ▸ ha))
      (by simp) (by simp) (by simp) (by simp)
      (fun c hc => by
        by_cases e : c = g
        · subst e; exact .inr ⟨id, _, h0, trivial, Blk.feet_head (mem_feet.2 ⟨hb1, hb2⟩), .inl rfl⟩
        · exact .inl (setRow_other w g c _ e))
      (fun hle => by
        rw [upd_same]
        refine ⟨pre ++ (a.eval x).cells.toList ++ post, ⟨?_, .inr ⟨g, cap, _, by rw [hlz]; exact hgv, hbg, setRow_heap w g _ _ e1 (0, 0) hcur, by rw [hlz]; exact hnc, hcm, ?_, ?_⟩⟩, ?_, ?_, r4⟩
        · simp only [List.length_append] at hlen ⊢; rw [hlz]; omega
        · have := congrArg List.length hcurl
          simp only [Array.length_toList, List.length_append] at this hlen
          simp only [List.size_toArray, List.length_append]
          omega
        · rw [hlz]
          rw [List.take_append_of_le_length (by simp only [List.length_append] at hlen ⊢; omega), List.take_of_length_le (by simp only [List.length_append] at hlen ⊢; omega)]
        · refine RRcs.mono hle.pure _ _ _ (fun c hc => setRow_other w g c _ fun e => ?_) m3
          subst e
          have hgf : c ∈ feet (pl id).v := mem_feet.2 ⟨hb1, hb2⟩
          rcases inF c hc with hc | hc
          · exact (List.nodup_append.1 hFn).2.2 c hgf c hc rfl
          · exact live0 (Blk.feet_head hgf) hc
        · intro u hu
          rw [← hzs] at hu
          have hsz : (setP z q x').size = z.size := same_size _ _ (setP_same q z y _ hy hsame)
          rcases List.mem_or_eq_of_mem_set hu with hu | rfl
          · exact r3 u hu
          · rw [hsz]; exact r3 z (List.mem_of_getElem? hz))
    unfold OpRes
    rw [rr]
    exact ⟨_, _, h, ⟨g', s.defers, s.size, fun t x hx => RT.mono hle _ _ (s.tmps t x hx), s.le.trans hle⟩, hle⟩

/-! ### Loads: a row that is owned below is opened -/

theorem getP_setP : ∀ (p : List Nat) (c x y : LV), getP c p = some x → getP (setP c p y) p = some y
  | [], c, x, y, h => by
    have : setP c [] y = y := by cases c <;> rfl
    rw [this]; cases y <;> rfl
  | f :: p, c, x, y, h => by
    cases c <;> simp only [getP] at h <;> try cases h
    rename_i fs
    cases hf : fs[f]? with
    | none => rw [hf] at h; cases h
    | some z =>
      rw [hf] at h
      have e : setP (.st fs) (f :: p) y = .st (fs.set f (setP z p y)) := by simp only [setP, hf]
      rw [e]
      simp only [getP, List.getElem?_set_self (lt_of_get hf)]
      exact getP_setP p z x y h

theorem setP_setP : ∀ (p : List Nat) (c x y v : LV), getP c p = some x → setP (setP c p v) p y = setP c p y
  | [], c, x, y, v, h => by
    have h1 : ∀ c : LV, ∀ u, setP c [] u = u := fun c u => by cases c <;> rfl
    rw [h1, h1]
  | f :: p, c, x, y, v, h => by
    cases c <;> simp only [getP] at h <;> try cases h
    rename_i fs
    cases hf : fs[f]? with
    | none => rw [hf] at h; cases h
    | some z =>
      rw [hf] at h
      have e : ∀ u, setP (.st fs) (f :: p) u = .st (fs.set f (setP z p u)) := fun u => by simp only [setP, hf]
      rw [e, e]
      simp only [setP, List.getElem?_set_self (lt_of_get hf), setP_setP p z x y v h, List.set_set]

def loadT (T : Tab) (H : List Blk) (t : TypeId) (p : LV) (K : LV → List Blk → Prop) : Prop :=
  match T t with
  | none => False
  | some i => match p with
    | .hp id n (f :: q) => match H[id]? with
      | some (.row true e k xs) => n = xs.length ∧ ∃ z x, xs[f]? = some z ∧ getP z q = some x ∧ (match x with
        | .own e' k' ys => match fitT i (.hs 0 0) with
          | true => setHK H id (.opn e k (fun v => xs.set f (setP z q v)) H.length ys.length) fun H1 => appK H1 (.row false e' k' ys) fun H2 => K (.hs H.length ys.length) H2
          | false => False
        | x => noOwn x = true ∧ fitT i x = true ∧ K x H)
      | _ => False
    | _ => False

theorem op_loadT (hT : TabOK P T) {o : Oper} {t : TypeId} {x : Operand} (ho : o.op = .load t x) (s : Sim X B W0 ⟨ts, H⟩ a w pl) {K : LV → List Blk → Prop}
    (h : loadT T H t (ev ts x) K) : OpResS P o a w X B W0 ts H pl K := by
  have hx := ev_sound s x
  have ex0 : ev (St.mk ts H).tmps x = ev ts x := rfl
  rw [ex0] at hx
  unfold loadT at h
  cases hi : T t with
  | none => rw [hi] at h; exact h.elim
  | some i =>
    rw [hi] at h
    have hty := hT t i hi
    simp only at h
    split at h
    rotate_left
    · exact h.elim
    rename_i id n f q e
    rw [e] at hx
    simp only [RT, RT1, RC] at hx
    obtain ⟨u0, h1, h2⟩ := hx
    simp at h1
    subst h1
    have run : ∀ {ad : Addr} {v : Value}, a.eval x = .pointer (some ad) → (loadVar t ad).run P w = .ok v w → (execOp a.eval o).run P w = .ok (.value v) w := by
      intro ad v e1 e2
      simp [execOp, ho, e1, Instr.loadAt, Instr.sureAddr, e2]
    split at h
    rotate_left
    · exact h.elim
    rename_i e1 k1 xs h0
    obtain ⟨hn, z, y, hz, hy, h⟩ := h
    have hg : getP (.st xs) (f :: q) = some y := by simp only [getP, hz]; exact hy
    have plain : noOwn y = true ∧ fitT i y = true ∧ K y H → OpResS P o a w X B W0 ts H pl K := by
      rintro ⟨k1', k2', k3'⟩
      obtain ⟨o', es, h3, h4, h5⟩ := load_place s h2 (.inr (.inr ⟨e1, k1, xs, h0, hn, by simp, hg, k1'⟩))
      obtain ⟨v, hv, h6, _⟩ := run_loadVar hty h5 k2' h4
      exact OpResS.pure s (run h3 hv) k3' h6
    split at h
    rotate_left
    · exact plain h
    rename_i e' k' ys
    split at h
    rotate_left
    · exact h.elim
    rename_i hfit
    rw [setHK_eq, appK_eq] at h
    obtain ⟨es, r1, r2, r3, r4⟩ := s.good.ok id _ h0
    have hplace : RRc w (owned X H pl) B (.st xs) es (pl id).fp := by simp only [RRc]; exact r2
    obtain ⟨pre, d, post, b1, bx, b2, hes, hfp, m1, m2, m3⟩ := RRc_place (f :: q) (.st xs) _ es _ hplace hg
    simp only [RRc] at m2
    obtain ⟨u, es', rfl, o1, o2, o3, o4, rfl⟩ := m2
    have hbx : (if hasBk u = true then [bk u] else []) = feet u := rfl
    rw [hbx] at hfp
    have hes' : es = pre ++ u :: post := by rw [hes]; simp
    have hslice : ∃ a l c, u = .slice a l c := by
      rcases o1.2 with ⟨rfl, _⟩ | ⟨g', cap, cur, rfl, _⟩ <;> exact ⟨_, _, _, rfl⟩
    have hu0 := h2.2.2.2.1 _ xs _ h0 rfl hn m1
    have hne : es ≠ [] := by rw [hes']; simp
    obtain ⟨hb1, hcells⟩ := CellsAt_row (w := w) r1 hne
    have hcell : CellsAt w ⟨bk (pl id).v, pre.length, none⟩ [u] := by
      have : CellsAt w ⟨bk (pl id).v, 0, none⟩ (pre ++ [u] ++ post) := by rw [hes'] at hcells; simpa using hcells
      simpa using this.mid
    obtain ⟨v, hv, _, h6⟩ := run_loadVar (ρ := { ctx X H pl w with hs := fun _ _ v => v = u }) (x := .hs 0 0) (es := [u]) hty (by simp only [RC]; exact ⟨u, rfl, rfl⟩) hfit hcell
    obtain rfl : v = u := by simp only [RT1, RC] at h6; obtain ⟨v', hv', h6⟩ := h6; simp at hv'; rw [hv', h6]
    have esP : ∀ y, setP (.st xs) (f :: q) y = .st (xs.set f (setP z q y)) := fun y => by simp only [setP, hz]
    have hlt : id < H.length := lt_of_get h0
    have nd0 := s.good.nd id _ h0 trivial
    have nd1 : (feet (pl id).v ++ (b1 ++ feet v ++ b2)).Nodup := by rw [← hfp]; exact nd0
    have hfull : ∀ c, c ∈ (Blk.row true e1 k1 xs).feet (pl id) ↔ c ∈ feet (pl id).v ++ (b1 ++ feet v ++ b2) := fun c => by rw [← hfp]; rfl
    have hlen2 : ∀ y, (xs.set f (setP z q y)).length = xs.length := fun y => by simp
    have hsameN : same (.st xs) (.st (xs.set f (setP z q .nil))) = true := by
      rw [← esP]; exact setP_same (f :: q) (.st xs) _ _ hg rfl
    let pl' : Nat → PV := upd (upd pl id ⟨(pl id).v, b1 ++ b2⟩) H.length ⟨v, []⟩
    have p1 : pl' id = ⟨(pl id).v, b1 ++ b2⟩ := by show upd _ _ _ _ = _; rw [upd_other _ (by omega), upd_same]
    have p2 : pl' H.length = ⟨v, []⟩ := upd_same _ _ _
    have p3 : ∀ i, i ≠ id → i ≠ H.length → pl' i = pl i := fun i n1 n2 => by show upd _ _ _ _ = _; rw [upd_other _ n2, upd_other _ n1]
    have getH : ∀ (i : Nat) (b : Blk), (H.set id (.opn e1 k1 (fun v => xs.set f (setP z q v)) H.length ys.length) ++ [.row false e' k' ys])[i]? = some b →
        (i = id ∧ b = .opn e1 k1 (fun v => xs.set f (setP z q v)) H.length ys.length) ∨ (i = H.length ∧ b = .row false e' k' ys) ∨ (i ≠ id ∧ i ≠ H.length ∧ H[i]? = some b) := by
      intro i b hi'
      by_cases e2 : i = H.length
      · subst e2
        rw [List.getElem?_append_right (by simp)] at hi'
        simp at hi'
        exact .inr (.inl ⟨rfl, hi'.symm⟩)
      · have hlt' : i < (H.set id (.opn e1 k1 (fun v => xs.set f (setP z q v)) H.length ys.length)).length := by have := lt_of_get hi'; simp at this ⊢; omega
        rw [push_old hlt'] at hi'
        rcases set_get hi' with ⟨rfl, rfl, _⟩ | ⟨h3, h4⟩
        · exact .inl ⟨rfl, rfl⟩
        · exact .inr (.inr ⟨h3, e2, h4⟩)
    obtain ⟨g', hle⟩ := s.good.many (H' := H.set id (.opn e1 k1 (fun v => xs.set f (setP z q v)) H.length ys.length) ++ [.row false e' k' ys]) (pl' := pl') (w' := w) (fun i => i = id ∨ i = H.length)
      (by simp)
      (fun i b hb hS _ => by
        rcases getH i b hb with ⟨rfl, _⟩ | ⟨rfl, _⟩ | ⟨_, _, h3⟩
        · exact absurd (.inl rfl) hS
        · exact absurd (.inr rfl) hS
        · exact h3)
      (fun i hS => p3 i (fun e => hS (.inl e)) (fun e => hS (.inr e)))
      (fun i b hb hS => by
        rcases getH i b hb with ⟨rfl, rfl⟩ | ⟨rfl, rfl⟩ | ⟨h3, h4, _⟩
        · refine .inr ⟨_, h0, ⟨_, rfl, by simp, fun p o'' hq => same_off p _ _ o'' hsameN hq⟩, by rw [p1]⟩
        · exact .inl (Nat.le_refl _)
        · rcases hS with e | e
          · exact absurd e h3
          · exact absurd e h4)
      (fun i b hb hS c hc => by
        rcases getH i b hb with ⟨rfl, rfl⟩ | ⟨rfl, rfl⟩ | ⟨h3, h4, _⟩
        · rw [p1] at hc
          refine .inr ⟨_, _, h0, trivial, (hfull c).2 ?_⟩
          have hc : c ∈ feet (pl i).v ++ (b1 ++ b2) := hc
          simp only [List.mem_append] at hc ⊢
          grind
        · rw [p2] at hc
          have hc : c ∈ feet v := hc
          exact .inr ⟨id, _, h0, trivial, (hfull c).2 (by simp [hc])⟩
        · rcases hS with e | e
          · exact absurd e h3
          · exact absurd e h4)
      (fun i j b d c hb hd hij hS lv hc hcd => by
        have inId : ∀ c, c ∈ (Blk.opn e1 k1 (fun v => xs.set f (setP z q v)) H.length ys.length).feet (pl' id) → c ∈ feet (pl id).v ++ (b1 ++ b2) := fun c hc => by rw [p1] at hc; exact hc
        have inNew : ∀ c, c ∈ (Blk.row false e' k' ys).feet (pl' H.length) → c ∈ feet v := fun c hc => by rw [p2] at hc; exact hc
        have dis : ∀ c, c ∈ feet (pl id).v ++ (b1 ++ b2) → c ∈ feet v → False := fun c hc hd => by
          simp only [List.nodup_append, List.mem_append] at nd1 hc
          grind
        have old1 : ∀ c, c ∈ feet (pl id).v ++ (b1 ++ b2) → c ∈ (Blk.row true e1 k1 xs).feet (pl id) := fun c hc => (hfull c).2 (by simp only [List.mem_append] at hc ⊢; grind)
        have old2 : ∀ c, c ∈ feet v → c ∈ (Blk.row true e1 k1 xs).feet (pl id) := fun c hc => (hfull c).2 (by simp [hc])
        rcases getH j d hd with ⟨rfl, rfl⟩ | ⟨rfl, rfl⟩ | ⟨h3, h4, _⟩
        · rcases getH i b hb with ⟨rfl, rfl⟩ | ⟨rfl, rfl⟩ | ⟨h5, h6, h7⟩
          · exact hij rfl
          · exact dis c (inId c hcd) (inNew c hc)
          · rw [p3 i h5 h6] at hc
            exact h5 (s.good.inj i _ b _ c h7 lv h0 trivial hc (old1 c (inId c hcd)))
        · rcases getH i b hb with ⟨rfl, rfl⟩ | ⟨rfl, rfl⟩ | ⟨h5, h6, h7⟩
          · exact dis c (inId c hc) (inNew c hcd)
          · exact hij rfl
          · rw [p3 i h5 h6] at hc
            exact h5 (s.good.inj i id b _ c h7 lv h0 trivial hc (old2 c (inNew c hcd)))
        · rcases hS with e | e
          · exact h3 e
          · exact h4 e)
      (fun i b hb hS => by
        rcases getH i b hb with ⟨rfl, rfl⟩ | ⟨rfl, rfl⟩ | ⟨h3, h4, _⟩
        · rw [p1]
          exact List.Nodup.sublist (List.Sublist.append (List.Sublist.refl _) (List.Sublist.append (List.sublist_append_left b1 (feet v)) (List.Sublist.refl _))) nd1
        · rw [p2]; exact feet_nodup _
        · rcases hS with e | e
          · exact absurd e h3
          · exact absurd e h4)
      (Nat.le_refl _) rfl rfl rfl (fun c _ => .inl rfl)
      (fun hle i b hb hS => by
        rcases getH i b hb with ⟨rfl, rfl⟩ | ⟨rfl, rfl⟩ | ⟨h3, h4, _⟩
        · rw [p1]
          have k3 := m3 .nil [.slice none 0 0] [] (by unfold RRc; exact ⟨by simp only [RC], rfl⟩)
          rw [esP] at k3
          simp only [RRc, List.append_nil] at k3
          have k3' : RRcs w (owned X H pl) B (xs.set f (setP z q .nil)) (pre ++ .slice none 0 0 :: post) (b1 ++ b2) := by simpa using k3
          refine ⟨pre, post, v, f :: q, ?_, ?_, ?_, r4, ?_, ?_, fun y => ?_, ?_⟩
          · show w.ownsRow B e1 k1 (pl i).v (xs.set f (setP z q .nil)).length _
            rw [hlen2, ← hes']; exact r1
          · exact RRcs.mono hle.pure _ _ _ (fun c _ => rfl) k3'
          · intro y hy'
            have hsz : (setP z q .nil).size = z.size := same_size _ _ (setP_same q z _ _ hy rfl)
            rcases List.mem_or_eq_of_mem_set hy' with hu | rfl
            · exact r3 y hu
            · rw [hsz]; exact r3 z (List.mem_of_getElem? hz)
          · have := getP_setP (f :: q) (.st xs) _ .nil hg
            rwa [esP] at this
          · have hgn := getP_setP (f :: q) (.st xs) _ .nil hg
            rw [esP] at hgn
            obtain ⟨o', ho'⟩ := offP_ex _ _ _ hgn
            have := same_off _ _ _ _ hsameN ho'
            rw [m1] at this
            rw [ho', ← this]
          · have := setP_setP (f :: q) (.st xs) _ y .nil hg
            rw [esP] at this
            rw [this, esP]
          · refine ⟨by simp, hslice, fun b' xs' hb' hr' _ => ?_⟩
            rw [p2]
        · rw [p2]
          exact ⟨es', o1, RCs.mono hle.pure _ _ o2, o3, o4⟩
        · rcases hS with e | e
          · exact absurd e h3
          · exact absurd e h4)
    refine ⟨_, run hu0 hv, _, _, pl', h, ⟨g', s.defers, s.size, fun t x hx => RT.mono hle _ _ (s.tmps t x hx), s.le.trans hle⟩, ?_, hle⟩
    simp only [RT, RT1, RC]
    exact ⟨v, rfl, by simp, hslice, fun b' xs' hb' hr' _ => by rw [p2]⟩

end
end Go.Lg

