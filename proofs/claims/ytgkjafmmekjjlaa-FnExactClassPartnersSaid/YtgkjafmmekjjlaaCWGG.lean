/- Contracts of functions of the program and of its model, told over readings. -/
import Derived.Test.YtgkjafmmekjjlaaCWGE
import Derived.Test.YtgkjafmmekjjlaaCWGC
import Derived.Test.YtgkjafmmekjjlaaCWGF
namespace Go.Proofs.Ytgkjafmmekjjlaa
open Go.Lg Go.Pm
set_option maxHeartbeats 3200000
set_option maxRecDepth 10000
set_option linter.unusedVariables false
set_option linter.unusedSimpArgs false

/-! ### Partners by class -/
theorem people4_h (ps : List Per) (us : List Uni) (F : Nat) (x y z u : LV) (q : Nat → Bool) (hl : ps.length ≤ 40) (hF : ∀ i, i < ps.length → FSpec env.P F [.int .i64 (i : Int), .ref x, .ref y, .ref z, .ref u] (.bool (q i))) :
    HSpec env.P 80 [famLV ps us, .clos F [.ref x, .ref y, .ref z, .ref u]] [] (.hs 0 (rowW q ps.length).length) [.arr 3 1 (rowW q ps.length)] := by
  refine HSpec_of_code (E := env.x [] 0) env_ok.x (fn := Try.f80) Try.func80 rfl Try.call80 _ _ _ _ ?_
  have hP : (ps.map Per.lv).length = ps.length := List.length_map ..
  have hp' : ps.length ≤ Go.maxLen := by unfold Go.maxLen; omega
  ((repeat ((conv => whnf); first | refine brT ?_ | refine brF ?_)); conv => whnf)
  intro _
  rw [hP]
  ((repeat ((conv => whnf); first | refine brT ?_ | refine brF ?_)); conv => whnf)
  refine loop_ruleR (α := Nat) [.old 0, .nil 3 1] (fun k => [(10, .int .i64 (k : Int)), (5, .hs 1 (rowW q k).length)]) (fun k => [.box (famLV ps us), .arr 3 1 (rowW q k)]) (fun k => ps.length - k) (fun k => k ≤ ps.length) 0 (Nat.zero_le _) ?_ ?_
  · refine ⟨?_, ⟨rfl, rfl, rfl, rfl, trivial⟩, rfl⟩
    ((repeat ((conv => whnf); refine ⟨rfl, rfl, ?_⟩)); trivial)
  intro k hk
  generalize hK : kk _ = KK
  ((repeat ((conv => whnf); first | refine brT ?_ | refine brF ?_)); conv => whnf)
  (refine ⟨fun g1 => ?_, fun g1 => ?_⟩ <;> rw [g1])
  · have hlt : k < ps.length := by rw [ltI_t] at g1; omega
    have e := step_i hlt hp'
    have hw := wantL_succ q k
    have hwl := wantL_len q (k + 1)
    ((repeat ((conv => whnf); first | refine brT ?_ | refine brF ?_)); conv => whnf)
    refine ⟨_, hF k hlt, ?_⟩
    ((repeat ((conv => whnf); first | refine brT ?_ | refine brF ?_)); conv => whnf)
    (refine ⟨fun g2 => ?_, fun g2 => ?_⟩ <;> rw [g2])
    · rw [g2] at hw
      have e2 : rowW q k ++ [LV.int .i64 (k : Int)] = rowW q (k + 1) := by unfold rowW; rw [hw, List.map_append]; rfl
      have hl1 : (rowW q (k + 1)).length ≤ k + 1 := by unfold rowW; rw [List.length_map]; exact hwl
      ((repeat ((conv => whnf); first | refine brT ?_ | refine brF ?_)); conv => whnf)
      refine ⟨rfl, rfl, ?_, ?_, ?_⟩
      · rw [e2]; unfold Go.maxLen; omega
      · rw [e2]; show (rowW q (k + 1)).length * 8 ≤ _; omega
      rw [e2]
      ((repeat ((conv => whnf); first | refine brT ?_ | refine brF ?_)); conv => whnf)
      subst hK
      refine round_endR [.old 0, .old 3] (k + 1) hlt (by omega) ⟨?_, ⟨rfl, rfl, rfl, rfl, trivial⟩, rfl⟩
      ((repeat ((conv => whnf); first | refine ⟨rfl, e, ?_⟩ | refine ⟨rfl, rfl, ?_⟩)); trivial)
    · rw [g2, List.append_nil] at hw
      have e2 : rowW q k = rowW q (k + 1) := by unfold rowW; rw [hw]
      have e3 : LV.hs 1 (rowW q k).length = LV.hs 1 (rowW q (k + 1)).length := by rw [e2]
      ((repeat ((conv => whnf); first | refine brT ?_ | refine brF ?_)); conv => whnf)
      subst hK
      refine round_endR [.old 0, .old 1] (k + 1) hlt (by omega) ⟨?_, ⟨rfl, rfl, rfl, congrArg (Blk.arr 3 1) e2, trivial⟩, rfl⟩
      repeat ((conv => whnf); first | refine ⟨rfl, e, ?_⟩ | refine ⟨rfl, e3, ?_⟩ | refine ⟨rfl, rfl, ?_⟩)
      trivial
  have h4 : k = ps.length := by rw [ltI_f] at g1; omega
  subst h4
  subst hK
  ((repeat ((conv => whnf); first | refine brT ?_ | refine brF ?_)); conv => whnf)
  exact ⟨[.hs 0 (rowW q ps.length).length], rfl, rfl, .inr ⟨[.old 1], ⟨rfl, rfl, trivial⟩, ⟨rfl, rfl, trivial⟩, rfl⟩⟩
/-- Where a number stands first. -/
def ixW (x : Int) (k : Nat) : List Int → Int
  | [] => -1
  | y :: l => match eqI x y with | true => (k : Int) | false => ixW x (k + 1) l
theorem indexW_spec (l : List Int) (x : Int) : FSpec env.P 79 [.sl (l.map intLV), .int .i64 x] (.int .i64 (ixW x 0 l)) := by
  refine FSpec_of_code env_ok (fn := Try.f79) Try.func79 rfl Try.call79 _ _ ?_
  have hX : (l.map intLV).length = l.length := List.length_map ..
  ((repeat ((conv => whnf); first | refine brT ?_ | refine brF ?_)); conv => whnf)
  intro hn
  rw [hX] at hn
  ((repeat ((conv => whnf); first | refine brT ?_ | refine brF ?_)); conv => whnf)
  rw [hX]
  refine loop_rule (α := Nat) (fun k => [(8, .int .i64 (k : Int))]) (fun _ => []) (fun k => l.length - k) (fun k => k ≤ l.length ∧ ixW x 0 l = ixW x k (l.drop k)) 0 ⟨Nat.zero_le _, rfl⟩ ?_ ?_
  · refine ⟨?_, trivial, rfl, rfl⟩
    ((repeat ((conv => whnf); refine ⟨rfl, ?_⟩)); trivial)
  rintro k ⟨hk, hi⟩
  ((repeat ((conv => whnf); first | refine brT ?_ | refine brF ?_)); conv => whnf)
  (refine ⟨fun h1 => ?_, fun h1 => ?_⟩ <;> rw [h1])
  · have hlt : k < l.length := by rw [ltI_t] at h1; omega
    have e := step_i hlt hn
    have hd : l.drop k = l[k] :: l.drop (k + 1) := List.drop_eq_getElem_cons hlt
    have hg : (l.map intLV)[k]? = some (intLV l[k]) := by rw [List.getElem?_map, List.getElem?_eq_getElem hlt]; rfl
    rw [hd] at hi
    generalize l[k] = y at hi hg
    ((repeat ((conv => whnf); first | refine brT ?_ | refine brF ?_)); conv => whnf)
    refine ⟨k, intLV y, rfl, hg, rfl, ?_⟩
    ((repeat ((conv => whnf); first | refine brT ?_ | refine brF ?_)); conv => whnf)
    (refine ⟨fun h2 => ?_, fun h2 => ?_⟩ <;> rw [h2])
    · ((repeat ((conv => whnf); first | refine brT ?_ | refine brF ?_)); conv => whnf)
      refine ⟨rfl, ?_, List.nodup_nil⟩
      rw [hi]; unfold ixW; rw [h2]
    · ((repeat ((conv => whnf); first | refine brT ?_ | refine brF ?_)); conv => whnf)
      refine round_end (k + 1) ⟨hlt, ?_⟩ (by omega) ⟨?_, trivial, rfl, rfl⟩
      · rw [hi]; conv => lhs; unfold ixW
        rw [h2]
      ((repeat ((conv => whnf); first | refine ⟨e, ?_⟩ | refine ⟨rfl, ?_⟩)); trivial)
  · have h4 : k = l.length := by rw [ltI_f] at h1; omega
    subst h4
    ((repeat ((conv => whnf); first | refine brT ?_ | refine brF ?_)); conv => whnf)
    refine ⟨rfl, ?_, List.nodup_nil⟩
    rw [hi, List.drop_length]; rfl
def sexA (ps : List Per) (k : Nat) : Int := match ps[k]? with | some x => x.sex | none => 0
def gA (g : List Int) (k : Nat) : Int := g.getD k 0
theorem gA_get {g : List Int} {k : Nat} (h : k < g.length) : (g.map intLV)[k]? = some (intLV (gA g k)) := by
  unfold gA; rw [List.getElem?_map, List.getElem?_eq_getElem h, getD_lt h]; rfl
theorem sexA_get {ps : List Per} {k : Nat} (h : k < ps.length) : ∃ x : Per, (ps.map Per.lv)[k]? = some x.lv ∧ x.sex = sexA ps k := by
  refine ⟨ps[k], by rw [List.getElem?_map, List.getElem?_eq_getElem h]; rfl, ?_⟩
  unfold sexA; rw [List.getElem?_eq_getElem h]
def cpS (ps : List Per) (p : Nat) : Int := match eqI (sexA ps p) 2 with | true => 1 | false => 2
def cpC (ps : List Per) (w g : List Int) (p : Nat) : Int := match eqI (sexA ps p) 2 with | true => ixW (gA g p) 0 w | false => gA w (gA g p).toNat
def cpQ (ps : List Per) (w g : List Int) (p k : Nat) : Bool := eqI (sexA ps k) (cpS ps p) && eqI (gA g k) (cpC ps w g p)
def cpL (ps : List Per) (us : List Uni) (w c g : List Int) (p : Int) : List Nat := match hasP ps us p && givB ps us w c g 0 with | true => wantL (cpQ ps w g p.toNat) ps.length | false => []
theorem cp1_spec (ps : List Per) (us : List Uni) (g : List Int) (S C : Int) {k : Nat} (hk : k < ps.length) (hg : k < g.length) :
    FSpec env.P 81 [.int .i64 (k : Int), .ref (famLV ps us), .ref (.int .i64 S), .ref (rowSl g), .ref (.int .i64 C)] (.bool (eqI (sexA ps k) S && eqI (gA g k) C)) := by
  refine FSpec_of_code env_ok (fn := Try.f81) Try.func81 rfl Try.call81 _ _ ?_
  obtain ⟨x, hx, hs⟩ := sexA_get hk
  have hgk := gA_get hg
  rw [← hs]
  unfold rowSl
  ((repeat ((conv => whnf); first | refine brT ?_ | refine brF ?_)); conv => whnf)
  refine ⟨true, by kernel_rfl, ?_⟩
  ((repeat ((conv => whnf); first | refine brT ?_ | refine brF ?_)); conv => whnf)
  refine ⟨k, x.lv, rfl, hx, rfl, ?_⟩
  ((repeat ((conv => whnf); first | refine brT ?_ | refine brF ?_)); conv => whnf)
  (refine ⟨fun h => ?_, fun h => ?_⟩ <;> rw [h])
  · ((repeat ((conv => whnf); first | refine brT ?_ | refine brF ?_)); conv => whnf)
    refine ⟨k, _, rfl, hgk, rfl, ?_⟩
    ((repeat ((conv => whnf); first | refine brT ?_ | refine brF ?_)); conv => whnf)
    exact ⟨by rfl, List.nodup_nil⟩
  · ((repeat ((conv => whnf); first | refine brT ?_ | refine brF ?_)); conv => whnf)
    exact ⟨by rfl, List.nodup_nil⟩
theorem fam_sex {ps : List Per} {us : List Uni} (h : famOk ps us = true) {k : Nat} (hk : k < ps.length) : sexA ps k = 1 ∨ sexA ps k = 2 := by
  unfold sexA; rw [List.getElem?_eq_getElem hk]
  have hp := (famOk_parts h).2.2.1
  unfold personsTo at hp
  rw [List.all_eq_true] at hp
  have := hp k (List.mem_range.2 hk)
  rw [List.getElem?_eq_getElem hk] at this
  exact (personOk_spec this).2.2.1
theorem cpg_at {ps : List Per} {us : List Uni} {w c g : List Int} (h : givB ps us w c g 0 = true) :
    clsB w c = true ∧ g.length = ps.length ∧ ∀ k, k < g.length → 0 ≤ gA g k ∧ (gA g k).toNat < w.length := by
  unfold givB at h
  simp only [Bool.and_eq_true, eqI_t, List.all_eq_true] at h
  obtain ⟨_, h1, h2, h3⟩ := h
  refine ⟨h1, by omega, fun k hk => ?_⟩
  have := h3 _ (List.getElem_mem hk)
  unfold inCl at this
  simp only [Bool.and_eq_true, leI_t, ltI_t] at this
  unfold gA
  rw [getD_lt hk]
  omega
theorem ixW_ge (x : Int) : ∀ (l : List Int) (k : Nat), ixW x k l = -1 ∨ (k : Int) ≤ ixW x k l
  | [], k => .inl rfl
  | y :: l, k => by
    simp only [ixW]
    split
    · exact .inr (Int.le_refl _)
    · rcases ixW_ge x l (k + 1) with h | h
      · exact .inl h
      · right; omega
theorem ixW_at (x : Int) : ∀ (l : List Int) (k j : Nat), l.Nodup → j < l.length → (ixW x k l = ((k + j : Nat) : Int) ↔ l.getD j 0 = x)
  | [], k, j, _, h => by simp at h
  | y :: l, k, j, hn, hj => by
    have hn' := List.nodup_cons.1 hn
    cases j with
    | zero =>
      simp only [ixW, List.getD_cons_zero, Nat.add_zero]
      cases h : eqI x y with
      | true => rw [eqI_t] at h; simp [h]
      | false =>
        rw [eqI_f] at h
        simp only
        constructor
        · intro e
          exfalso
          have : ∀ (l : List Int) (k : Nat), ixW x (k + 1) l ≠ (k : Int) := by
            intro l
            induction l with
            | nil => intro k; simp only [ixW]; omega
            | cons z l ih =>
              intro k
              simp only [ixW]
              split
              · omega
              · have := ixW_ge x l (k + 1 + 1)
                rcases this with h | h <;> omega
          exact this l k e
        · intro e; exact absurd e.symm h
    | succ j =>
      simp only [ixW, List.getD_cons_succ]
      cases h : eqI x y with
      | true =>
        rw [eqI_t] at h
        subst h
        simp only
        constructor
        · intro e; omega
        · intro e
          exfalso
          have hj' : j < l.length := by simpa using hj
          rw [getD_lt hj'] at e
          exact hn'.1 (e ▸ List.getElem_mem hj')
      | false =>
        have := ixW_at x l (k + 1) j hn'.2 (by simpa using hj)
        simp only
        rw [← this]
        constructor <;> intro e <;> rw [e] <;> congr 1 <;> omega
def spQ (ps : List Per) (w g : List Int) (p k : Nat) : Bool :=
  (eqI (sexA ps p) 1 && (eqI (sexA ps k) 2 && eqI (gA g k) (gA w (gA g p).toNat))) || (eqI (sexA ps p) 2 && (eqI (sexA ps k) 1 && eqI (gA w (gA g k).toNat) (gA g p)))
theorem cpQ_eq {ps : List Per} {us : List Uni} {w c g : List Int} (hf : famOk ps us = true) (hg : givB ps us w c g 0 = true) {p k : Nat} (hp : p < ps.length) (hk : k < ps.length) : cpQ ps w g p k = spQ ps w g p k := by
  obtain ⟨hc, hl, ha⟩ := cpg_at hg
  obtain ⟨k0, k1⟩ := ha k (by omega)
  have hn := (permB_spec.1 (clsB_at hc).2.2.2.1).2
  unfold cpQ spQ cpS cpC
  rcases fam_sex hf hp with h | h <;> rw [h]
  · rw [show eqI 1 2 = false by rw [eqI_f]; omega, eqI_refl]
    simp
  · rw [show eqI 2 1 = false by rw [eqI_f]; omega, eqI_refl]
    have := ixW_at (gA g p) w 0 (gA g k).toNat hn k1
    have e : eqI (gA g k) (ixW (gA g p) 0 w) = eqI (gA w (gA g k).toNat) (gA g p) := by
      rw [Bool.eq_iff_iff, eqI_t, eqI_t]
      unfold gA at this ⊢
      rw [← this]
      unfold gA at k0
      constructor <;> intro e <;> omega
    simp only [e, Bool.false_and, Bool.false_or, Bool.true_and]
theorem cp_impl (ps : List Per) (us : List Uni) (w c g : List Int) (p : Int) (h1 : w.length ≤ 1048576) (h2 : c.length ≤ 1048576) :
    HSpec env.P 36 [famLV ps us, clsLV w c, rowSl g, .int .i64 p] [] (.hs 0 ((cpL ps us w c g p).map natLV).length) [.arr 3 1 ((cpL ps us w c g p).map natLV)] := by
  refine HSpec_of_code (E := env.x [80] 0) env_ok.x (fn := Try.f36) Try.func36 rfl Try.call36 _ _ _ _ ?_
  unfold cpL
  ((repeat ((conv => whnf); first | refine brT ?_ | refine brF ?_)); conv => whnf)
  refine ⟨_, hasPerson_spec ps us p, ?_⟩
  ((repeat ((conv => whnf); first | refine brT ?_ | refine brF ?_)); conv => whnf)
  cases hp : hasP ps us p
  · rw [show notB false = true by simp [notB]]
    ((repeat ((conv => whnf); first | refine brT ?_ | refine brF ?_)); conv => whnf)
    exact ⟨[.hs 0 0], rfl, rfl, .nl [.tmp 0 [] false 3 1] [.old 3] ⟨⟨rfl, rfl, trivial⟩, ⟨rfl, rfl, trivial⟩, rfl⟩⟩
  rw [show notB true = false by simp [notB]]
  ((repeat ((conv => whnf); first | refine brT ?_ | refine brF ?_)); conv => whnf)
  refine ⟨_, giv_impl ps us w c g 0 h1 h2, ?_⟩
  ((repeat ((conv => whnf); first | refine brT ?_ | refine brF ?_)); conv => whnf)
  cases hg : givB ps us w c g 0
  · rw [show notB false = true by simp [notB]]
    ((repeat ((conv => whnf); first | refine brT ?_ | refine brF ?_)); conv => whnf)
    exact ⟨[.hs 0 0], rfl, rfl, .nl [.tmp 0 [] false 3 1] [.old 3] ⟨⟨rfl, rfl, trivial⟩, ⟨rfl, rfl, trivial⟩, rfl⟩⟩
  rw [show notB true = false by simp [notB]]
  obtain ⟨p0, pl, hf⟩ := hasP_lt hp
  obtain ⟨n, rfl⟩ : ∃ n : Nat, p = (n : Int) := ⟨p.toNat, by omega⟩
  rw [Int.toNat_natCast] at pl ⊢
  obtain ⟨hc, hl, ha⟩ := cpg_at hg
  obtain ⟨n0, n1⟩ := ha n (by omega)
  have hq := people4_h ps us 81 (famLV ps us) (.int .i64 (cpS ps n)) (rowSl g) (.int .i64 (cpC ps w g n)) (cpQ ps w g n) (fam_40 hf) (fun i hi => cp1_spec ps us g _ _ hi (by omega))
  have hgn := gA_get (g := g) (k := n) (by omega)
  have hwn := gA_get (g := w) (k := (gA g n).toNat) n1
  obtain ⟨x, hx, hs⟩ := sexA_get pl
  have hcp : cpC ps w g n = match eqI x.sex 2 with | true => ixW (gA g n) 0 w | false => gA w (gA g n).toNat := by unfold cpC; rw [hs]
  have hcs : cpS ps n = match eqI x.sex 2 with | true => 1 | false => 2 := by unfold cpS; rw [hs]
  rw [hcp, hcs] at hq
  generalize gA w (gA g n).toNat = wn at hwn hq
  obtain ⟨m, hm⟩ : ∃ m : Nat, gA g n = (m : Int) := ⟨(gA g n).toNat, by omega⟩
  rw [hm] at hgn hwn hq
  have hix := indexW_spec w (m : Int)
  rw [Int.toNat_natCast] at hwn
  unfold clsLV rowSl at *
  ((repeat ((conv => whnf); first | refine brT ?_ | refine brF ?_)); conv => whnf)
  refine ⟨false, 0, 0, 0, [0, 1, 2, 3, 4, 5, 6, 7], (.alt 8 (.one 9 (.one 10 (.one 11 .done))) (.one 9 (.one 8 (.one 10 (.one 11 .done))))), by kernel_rfl, ?_⟩
  ((repeat ((conv => whnf); first | refine brT ?_ | refine brF ?_)); conv => whnf)
  refine ⟨n, _, rfl, hgn, rfl, ?_⟩
  ((repeat ((conv => whnf); first | refine brT ?_ | refine brF ?_)); conv => whnf)
  refine ⟨m, _, rfl, hwn, rfl, ?_⟩
  ((repeat ((conv => whnf); first | refine brT ?_ | refine brF ?_)); conv => whnf)
  apply Exists.intro; apply Exists.intro
  refine And.intro ?_ ?_
  · ((repeat ((conv => whnf); first | refine brT ?_ | refine brF ?_)); conv => whnf)
    refine And.intro ?_ ?_
    · ((repeat ((conv => whnf); first | refine brT ?_ | refine brF ?_)); conv => whnf)
      refine Weak.idn ?_ ?_ rfl
      · ((repeat ((conv => whnf); refine ⟨rfl, ?_⟩)); trivial)
      · exact ⟨rfl, rfl, rfl, rfl, rfl, trivial⟩
    · ((repeat ((conv => whnf); first | refine brT ?_ | refine brF ?_)); conv => whnf)
      refine .inr ⟨[.old 0, .old 1, .old 2, .old 4, .old 3], ?_, ⟨rfl, rfl, rfl, rfl, rfl, rfl, rfl, rfl, rfl, rfl, trivial⟩, rfl⟩
      ((repeat ((conv => whnf); refine ⟨rfl, rfl, ?_⟩)); trivial)
  ((repeat ((conv => whnf); first | refine brT ?_ | refine brF ?_)); conv => whnf)
  refine ⟨n, x.lv, rfl, hx, rfl, ?_⟩
  ((repeat ((conv => whnf); first | refine brT ?_ | refine brF ?_)); conv => whnf)
  (refine ⟨fun h3 => ?_, fun h3 => ?_⟩ <;> rw [h3])
  · rw [h3] at hq
    ((repeat ((conv => whnf); first | refine brT ?_ | refine brF ?_)); conv => whnf)
    refine ⟨false, 7, by kernel_rfl, ?_⟩
    ((repeat ((conv => whnf); first | refine brT ?_ | refine brF ?_)); conv => whnf)
    refine ⟨n, _, rfl, hgn, rfl, ?_⟩
    ((repeat ((conv => whnf); first | refine brT ?_ | refine brF ?_)); conv => whnf)
    refine ⟨_, hix, ?_⟩
    ((repeat ((conv => whnf); first | refine brT ?_ | refine brF ?_)); conv => whnf)
    refine ⟨[], _, _, _, _, hq, rfl, rfl, rfl, ⟨rfl, flats_rowW _ _, trivial⟩, ?_⟩
    ((repeat ((conv => whnf); first | refine brT ?_ | refine brF ?_)); conv => whnf)
    exact ⟨[.hs 0 (rowW (cpQ ps w g n) ps.length).length], rfl, rfl, .inr ⟨[.old 5], ⟨rfl, rfl, trivial⟩, ⟨rfl, rfl, trivial⟩, rfl⟩⟩
  · rw [h3] at hq
    ((repeat ((conv => whnf); first | refine brT ?_ | refine brF ?_)); conv => whnf)
    refine ⟨[], _, _, _, _, hq, rfl, rfl, rfl, ⟨rfl, flats_rowW _ _, trivial⟩, ?_⟩
    ((repeat ((conv => whnf); first | refine brT ?_ | refine brF ?_)); conv => whnf)
    exact ⟨[.hs 0 (rowW (cpQ ps w g n) ps.length).length], rfl, rfl, .inr ⟨[.old 5], ⟨rfl, rfl, trivial⟩, ⟨rfl, rfl, trivial⟩, rfl⟩⟩
theorem spq_tt {a b c d e f : Bool} (hq : true = ((a && (b && c)) || (d && (e && f)))) : (a = true ∧ b = true ∧ c = true) ∨ (d = true ∧ e = true ∧ f = true) := by
  revert hq; cases a <;> cases b <;> cases c <;> cases d <;> cases e <;> cases f <;> decide
theorem cp_spec (ps : List Per) (us : List Uni) (w c g : List Int) (p : Int) (h1 : w.length ≤ 1048576) (h2 : c.length ≤ 1048576) :
    HSpec env.P 33 [famLV ps us, clsLV w c, rowSl g, .int .i64 p] [] (.hs 0 ((cpL ps us w c g p).map natLV).length) [.arr 3 1 ((cpL ps us w c g p).map natLV)] := by
  refine HSpec_of_code (E := env.x [] 0) env_ok.x (fn := Try.f33) Try.func33 rfl Try.call33 _ _ _ _ ?_
  unfold cpL
  ((repeat ((conv => whnf); first | refine brT ?_ | refine brF ?_)); conv => whnf)
  refine ⟨_, giv_spec ps us w c g 0 h1 h2, ?_⟩
  ((repeat ((conv => whnf); first | refine brT ?_ | refine brF ?_)); conv => whnf)
  cases hg : givB ps us w c g 0
  · rw [show notB false = true by simp [notB], Bool.and_false]
    ((repeat ((conv => whnf); first | refine brT ?_ | refine brF ?_)); conv => whnf)
    exact ⟨[.hs 0 0], rfl, rfl, .nl [.tmp 0 [] false 3 1] [.old 2] ⟨⟨rfl, rfl, trivial⟩, ⟨rfl, rfl, trivial⟩, rfl⟩⟩
  rw [show notB true = false by simp [notB]]
  ((repeat ((conv => whnf); first | refine brT ?_ | refine brF ?_)); conv => whnf)
  refine ⟨_, l1Has_spec ps us p, ?_⟩
  ((repeat ((conv => whnf); first | refine brT ?_ | refine brF ?_)); conv => whnf)
  cases hp : hasP ps us p
  · rw [show notB false = true by simp [notB]]
    ((repeat ((conv => whnf); first | refine brT ?_ | refine brF ?_)); conv => whnf)
    exact ⟨[.hs 0 0], rfl, rfl, .nl [.tmp 0 [] false 3 1] [.old 2] ⟨⟨rfl, rfl, trivial⟩, ⟨rfl, rfl, trivial⟩, rfl⟩⟩
  rw [show notB true = false by simp [notB]]
  obtain ⟨p0, pl, hf⟩ := hasP_lt hp
  obtain ⟨n, rfl⟩ : ∃ n : Nat, p = (n : Int) := ⟨p.toNat, by omega⟩
  rw [Int.toNat_natCast] at pl ⊢
  obtain ⟨hc, hl, ha⟩ := cpg_at hg
  obtain ⟨n0, n1⟩ := ha n (by omega)
  have h40 := fam_40 hf
  have hP : (ps.map Per.lv).length = ps.length := List.length_map ..
  have hp' : ps.length ≤ Go.maxLen := by unfold Go.maxLen; omega
  have hgn := gA_get (g := g) (k := n) (by omega)
  have hwn := gA_get (g := w) (k := (gA g n).toNat) n1
  obtain ⟨m, hm⟩ : ∃ m : Nat, gA g n = (m : Int) := ⟨(gA g n).toNat, by omega⟩
  have hq : ∀ k, k < ps.length → cpQ ps w g n k = ((eqI (sexA ps n) 1 && (eqI (sexA ps k) 2 && eqI (gA g k) (gA w (gA g n).toNat))) || (eqI (sexA ps n) 2 && (eqI (sexA ps k) 1 && eqI (gA w (gA g k).toNat) (gA g n)))) := fun k hk => cpQ_eq hf hg pl hk
  obtain ⟨x, hx, hs⟩ := sexA_get pl
  rw [← hs, hm] at hq
  rw [hm] at hgn hwn
  rw [Int.toNat_natCast] at hwn
  simp only [Int.toNat_natCast] at hq
  generalize cpQ ps w g n = q at hq ⊢
  generalize gA w m = wn at hwn hq
  unfold clsLV rowSl
  ((repeat ((conv => whnf); first | refine brT ?_ | refine brF ?_)); conv => whnf)
  intro _
  rw [hP]
  ((repeat ((conv => whnf); first | refine brT ?_ | refine brF ?_)); conv => whnf)
  refine loop_rule (α := Nat) (fun k => [(23, .undef), (27, .int .i64 (k : Int)), (9, .hs 2 (rowW q k).length)]) (fun k => [.box (famLV ps us), .box (.st [.sl (w.map intLV), .sl (c.map intLV)]), .arr 3 1 (rowW q k)]) (fun k => ps.length - k) (fun k => k ≤ ps.length) 0 (Nat.zero_le _) ?_ ?_
  · refine ⟨?_, ⟨rfl, rfl, rfl, trivial⟩, rfl, rfl⟩
    ((repeat ((conv => whnf); refine ⟨rfl, ?_⟩)); trivial)
  intro k hk
  generalize hK : kk _ = KK
  ((repeat ((conv => whnf); first | refine brT ?_ | refine brF ?_)); conv => whnf)
  (refine ⟨fun g1 => ?_, fun g1 => ?_⟩ <;> rw [g1])
  · have hlt : k < ps.length := by rw [ltI_t] at g1; omega
    have e := step_i hlt hp'
    have hw := wantL_succ q k
    have hwl := wantL_len q (k + 1)
    have hq := hq k hlt
    obtain ⟨y, hy, hys⟩ := sexA_get hlt
    rw [← hys] at hq
    have hgk := gA_get (g := g) (k := k) (by omega)
    obtain ⟨k0, k1⟩ := ha k (by omega)
    have hwk := gA_get (g := w) (k := (gA g k).toNat) k1
    obtain ⟨j, hj⟩ : ∃ j : Nat, gA g k = (j : Int) := ⟨(gA g k).toNat, by omega⟩
    rw [hj] at hq hgk hwk
    rw [Int.toNat_natCast] at hq hwk
    generalize gA w j = wj at hq hwk
    generalize q k = qk at hq hw
    ((repeat ((conv => whnf); first | refine brT ?_ | refine brF ?_)); conv => whnf)
    refine ⟨k, y.lv, rfl, hy, rfl, ?_⟩
    ((repeat ((conv => whnf); first | refine brT ?_ | refine brF ?_)); conv => whnf)
    refine ⟨true, by kernel_rfl, ?_⟩
    cases qk
    · rw [List.append_nil] at hw
      have e2 : rowW q k = rowW q (k + 1) := by
        unfold rowW; rw [hw]
      have e3 : LV.hs 2 (rowW q k).length = LV.hs 2 (rowW q (k + 1)).length := by rw [e2]
      repeat' ((repeat ((conv => whnf); first | refine brT ?_ | refine brF ?_)); (conv => whnf); first
        | refine ⟨n, x.lv, rfl, hx, rfl, ?_⟩
        | refine ⟨k, _, rfl, hgk, rfl, ?_⟩
        | refine ⟨n, _, rfl, hgn, rfl, ?_⟩
        | refine ⟨m, _, rfl, hwn, rfl, ?_⟩
        | refine ⟨j, _, rfl, hwk, rfl, ?_⟩
        | (refine And.intro ?_ ?_ <;> (intro h; rw [h])))
      all_goals ((repeat ((conv => whnf); first | refine brT ?_ | refine brF ?_)); conv => whnf)
      all_goals try (exfalso; clear hK e2 e3 hw hwl; simp_all; done)
      all_goals subst hK
      all_goals refine round_endR [.old 0, .old 1, .old 2] (k + 1) hlt (by omega) ⟨?_, ⟨rfl, rfl, rfl, rfl, rfl, congrArg (Blk.arr 3 1) e2, trivial⟩, rfl⟩
      all_goals (repeat ((conv => whnf); first | refine ⟨rfl, e, ?_⟩ | refine ⟨rfl, e3, ?_⟩ | refine ⟨rfl, rfl, ?_⟩))
      all_goals trivial
    · have e2 : rowW q k ++ [LV.int .i64 (k : Int)] = rowW q (k + 1) := by
        unfold rowW; rw [hw, List.map_append]; rfl
      have hl1 : (rowW q (k + 1)).length ≤ k + 1 := by
        unfold rowW; rw [List.length_map]; exact hwl
      have m1 : (rowW q k ++ [LV.int .i64 (k : Int)]).length ≤ Go.maxLen := by
        rw [e2]; unfold Go.maxLen; omega
      have m2 : (rowW q k ++ [LV.int .i64 (k : Int)]).length * 8 ≤ 140737488355328 := by
        rw [e2]; omega
      rcases spq_tt hq with ⟨ha, hb, hc'⟩ | ⟨ha, hb, hc'⟩
      · repeat' ((repeat ((conv => whnf); first | refine brT ?_ | refine brF ?_)); (conv => whnf); first
          | refine ⟨n, x.lv, rfl, hx, rfl, ?_⟩
          | refine ⟨k, _, rfl, hgk, rfl, ?_⟩
          | refine ⟨n, _, rfl, hgn, rfl, ?_⟩
          | refine ⟨m, _, rfl, hwn, rfl, ?_⟩
          | refine ⟨j, _, rfl, hwk, rfl, ?_⟩
          | (refine And.intro ?_ ?_ <;> (intro h; first | (rw [ha] at h; cases h; done) | (rw [hb] at h; cases h; done) | (rw [hc'] at h; cases h; done) | rw [h])))
        all_goals ((repeat ((conv => whnf); first | refine brT ?_ | refine brF ?_)); conv => whnf)
        refine ⟨rfl, rfl, m1, m2, ?_⟩
        rw [e2]
        ((repeat ((conv => whnf); first | refine brT ?_ | refine brF ?_)); conv => whnf)
        subst hK
        refine round_endR [.old 0, .old 1, .old 5] (k + 1) hlt (by omega) ⟨?_, ⟨rfl, rfl, rfl, rfl, rfl, rfl, trivial⟩, rfl⟩
        ((repeat ((conv => whnf); first | refine ⟨rfl, e, ?_⟩ | refine ⟨rfl, rfl, ?_⟩)); trivial)
      · have hd : eqI x.sex 1 = false := by
          rw [eqI_t] at ha; rw [eqI_f, ha]; omega
        repeat' ((repeat ((conv => whnf); first | refine brT ?_ | refine brF ?_)); (conv => whnf); first
          | refine ⟨n, x.lv, rfl, hx, rfl, ?_⟩
          | refine ⟨k, _, rfl, hgk, rfl, ?_⟩
          | refine ⟨n, _, rfl, hgn, rfl, ?_⟩
          | refine ⟨m, _, rfl, hwn, rfl, ?_⟩
          | refine ⟨j, _, rfl, hwk, rfl, ?_⟩
          | (refine And.intro ?_ ?_ <;> (intro h; first | (rw [hd] at h; cases h; done) | (rw [ha] at h; cases h; done) | (rw [hb] at h; cases h; done) | (rw [hc'] at h; cases h; done) | rw [h])))
        all_goals ((repeat ((conv => whnf); first | refine brT ?_ | refine brF ?_)); conv => whnf)
        refine ⟨rfl, rfl, m1, m2, ?_⟩
        rw [e2]
        ((repeat ((conv => whnf); first | refine brT ?_ | refine brF ?_)); conv => whnf)
        subst hK
        refine round_endR [.old 0, .old 1, .old 5] (k + 1) hlt (by omega) ⟨?_, ⟨rfl, rfl, rfl, rfl, rfl, rfl, trivial⟩, rfl⟩
        ((repeat ((conv => whnf); first | refine ⟨rfl, e, ?_⟩ | refine ⟨rfl, rfl, ?_⟩)); trivial)
  · have h4 : k = ps.length := by rw [ltI_f] at g1; omega
    subst h4
    subst hK
    ((repeat ((conv => whnf); first | refine brT ?_ | refine brF ?_)); conv => whnf)
    exact ⟨[.hs 0 (rowW q ps.length).length], rfl, rfl, .inr ⟨[.old 2], ⟨rfl, rfl, trivial⟩, ⟨rfl, rfl, trivial⟩, rfl⟩⟩
theorem cpL_len (ps : List Per) (us : List Uni) (w c g : List Int) (p : Int) : (cpL ps us w c g p).length ≤ 40 := by
  unfold cpL
  split
  · rename_i h
    have := fam_40 (hasP_lt (Bool.and_eq_true_iff.1 h).1).2.2
    exact Nat.le_trans (wantL_len _ _) this
  · simp
end Go.Proofs.Ytgkjafmmekjjlaa


namespace Go.Proofs.Ytgkjafmmekjjlaa
open Go.Lg Go.Pm
set_option maxHeartbeats 3200000
set_option maxRecDepth 10000
set_option linter.unusedVariables false
set_option linter.unusedSimpArgs false

theorem law_classPartners (ps : List Per) (us : List Uni) (w c g : List Int) (p : Int) (hf : FamOK ps us) (hc : w.length ≤ Go.maxLen ∧ c.length ≤ Go.maxLen) (hg : g.length ≤ Go.maxLen) : FSpec env.P 9 [famLV ps us, clsLV w c, rowSl g, .int .i64 p] (.bool true) := by
  refine FSpec_of_code (E := env.x [14, 34, 35, 36, 18, 38, 19] 0) env_ok.x (fn := Try.f9) Try.func9 rfl Try.call9 _ _ ?_
  have hG : ((g.map intLV).length : Int) = (g.length : Int) := by simp
  ((repeat ((conv => whnf); first | refine brT ?_ | refine brF ?_)); conv => whnf)
  intro _
  ((repeat ((conv => whnf); first | refine brT ?_ | refine brF ?_)); conv => whnf)
  rw [hG]
  (refine ⟨fun h0 => ?_, fun h0 => ?_⟩ <;> rw [h0])
  · ((repeat ((conv => whnf); first | refine brT ?_ | refine brF ?_)); conv => whnf); exact fin rfl
  rw [ltI_f] at h0
  ((repeat ((conv => whnf); first | refine brT ?_ | refine brF ?_)); conv => whnf)
  refine ⟨_, szFamily_spec ps us _, ?_⟩
  ((repeat ((conv => whnf); first | refine brT ?_ | refine brF ?_)); conv => whnf)
  (refine ⟨fun h => ?_, fun h => ?_⟩ <;> rw [h])
  · ((repeat ((conv => whnf); first | refine brT ?_ | refine brF ?_)); conv => whnf); exact fin rfl
  rw [ltI_f] at h
  obtain ⟨p1, u1, s1⟩ := szFam_ok (by omega) (by omega) hf h
  have hp : ps.length ≤ 1048576 := szFam_p hf h
  have hu : us.length ≤ 1048576 := szFam_u hf h
  ((repeat ((conv => whnf); first | refine brT ?_ | refine brF ?_)); conv => whnf)
  refine ⟨_, szClasses_spec w c _, ?_⟩
  ((repeat ((conv => whnf); first | refine brT ?_ | refine brF ?_)); conv => whnf)
  (refine ⟨fun h2 => ?_, fun h2 => ?_⟩ <;> rw [h2])
  · ((repeat ((conv => whnf); first | refine brT ?_ | refine brF ?_)); conv => whnf); exact fin rfl
  rw [ltI_f] at h2
  obtain ⟨es, hs⟩ := szC_ok (l := szFam 1048576 ps us) h (by omega) hc.1 hc.2 h2
  have hI := ints_h (cp_impl ps us w c g p (by omega) (by omega))
  have hS := ints_f (ints_h (cp_spec ps us w c g p (by omega) (by omega)))
  have hF := ints_f hI
  have hl : (castL (cpL ps us w c g p)).length ≤ 40 := by rw [castL_len]; exact cpL_len ps us w c g p
  generalize castL (cpL ps us w c g p) = R at hI hS hF hl
  ((repeat ((conv => whnf); first | refine brT ?_ | refine brF ?_)); conv => whnf)
  refine ⟨true, by kernel_rfl, ?_⟩
  ((repeat ((conv => whnf); first | refine brT ?_ | refine brF ?_)); conv => whnf)
  refine ⟨_, toFamily_spec ps us p1 u1, ?_⟩
  ((repeat ((conv => whnf); first | refine brT ?_ | refine brF ?_)); conv => whnf)
  refine ⟨_, toClasses_f w c (by omega) (by omega), ?_⟩
  ((repeat ((conv => whnf); first | refine brT ?_ | refine brF ?_)); conv => whnf)
  refine ⟨_, toIntS_f g (by omega), ?_⟩
  ((repeat ((conv => whnf); first | refine brT ?_ | refine brF ?_)); conv => whnf)
  refine ⟨_, hS, ?_⟩
  rw [show flatT (rowOw R) = true from flat_ints R]
  ((repeat ((conv => whnf); first | refine brT ?_ | refine brF ?_)); conv => whnf)
  refine ⟨[], _, _, _, _, toFamily_hm ps us p1 u1, rfl, rfl, rfl, trivial, ?_⟩
  ((repeat ((conv => whnf); first | refine brT ?_ | refine brF ?_)); conv => whnf)
  refine ⟨[], _, _, _, _, toClasses_h w c (by omega) (by omega), rfl, rfl, rfl, trivial, ?_⟩
  ((repeat ((conv => whnf); first | refine brT ?_ | refine brF ?_)); conv => whnf)
  refine ⟨[], _, _, _, _, toIntS_h g (by omega), rfl, rfl, rfl, trivial, ?_⟩
  ((repeat ((conv => whnf); first | refine brT ?_ | refine brF ?_)); conv => whnf)
  refine ⟨[], _, _, _, _, hI, rfl, ?_⟩
  ((repeat ((conv => whnf); first | refine brT ?_ | refine brF ?_)); conv => whnf)
  refine ⟨rfl, ?_⟩
  ((repeat ((conv => whnf); first | refine brT ?_ | refine brF ?_)); conv => whnf)
  refine ⟨rfl, ?_⟩
  ((repeat ((conv => whnf); first | refine brT ?_ | refine brF ?_)); conv => whnf)
  refine ⟨rfl, ?_⟩
  ((repeat ((conv => whnf); first | refine brT ?_ | refine brF ?_)); conv => whnf)
  refine ⟨rfl, ?_⟩
  ((repeat ((conv => whnf); first | refine brT ?_ | refine brF ?_)); conv => whnf)
  refine ⟨rfl, ?_⟩
  ((repeat ((conv => whnf); first | refine brT ?_ | refine brF ?_)); conv => whnf)
  refine ⟨rfl, rfl, ⟨rfl, flats_ints _, trivial⟩, ?_⟩
  ((repeat ((conv => whnf); first | refine brT ?_ | refine brF ?_)); conv => whnf)
  refine ⟨rfl, ?_⟩
  ((repeat ((conv => whnf); first | refine brT ?_ | refine brF ?_)); conv => whnf)
  refine ⟨_, eqIntS_spec R R, ?_⟩
  rw [eqIntS_refl]
  ((repeat ((conv => whnf); first | refine brT ?_ | refine brF ?_)); conv => whnf)
  rw [show notB true = false by simp [notB]]
  ((repeat ((conv => whnf); first | refine brT ?_ | refine brF ?_)); conv => whnf)
  refine ⟨true, by kernel_rfl, ?_⟩
  ((repeat ((conv => whnf); first | refine brT ?_ | refine brF ?_)); conv => whnf)
  refine ⟨_, toFamily_spec ps us p1 u1, ?_⟩
  ((repeat ((conv => whnf); first | refine brT ?_ | refine brF ?_)); conv => whnf)
  refine ⟨rfl, ?_⟩
  ((repeat ((conv => whnf); first | refine brT ?_ | refine brF ?_)); conv => whnf)
  refine ⟨rfl, ?_⟩
  ((repeat ((conv => whnf); first | refine brT ?_ | refine brF ?_)); conv => whnf)
  refine ⟨_, eqFamily_spec ps ps us us, ?_⟩
  rw [eqFam_refl]
  ((repeat ((conv => whnf); first | refine brT ?_ | refine brF ?_)); conv => whnf)
  rw [show notB true = false by simp [notB]]
  ((repeat ((conv => whnf); first | refine brT ?_ | refine brF ?_)); conv => whnf)
  refine ⟨true, by kernel_rfl, ?_⟩
  ((repeat ((conv => whnf); first | refine brT ?_ | refine brF ?_)); conv => whnf)
  refine ⟨_, toClasses_f w c (by omega) (by omega), ?_⟩
  ((repeat ((conv => whnf); first | refine brT ?_ | refine brF ?_)); conv => whnf)
  refine ⟨rfl, ?_⟩
  ((repeat ((conv => whnf); first | refine brT ?_ | refine brF ?_)); conv => whnf)
  refine ⟨rfl, ?_⟩
  ((repeat ((conv => whnf); first | refine brT ?_ | refine brF ?_)); conv => whnf)
  refine ⟨_, eqClasses_spec w c w c, ?_⟩
  rw [eqCls_refl]
  ((repeat ((conv => whnf); first | refine brT ?_ | refine brF ?_)); conv => whnf)
  rw [show notB true = false by simp [notB]]
  ((repeat ((conv => whnf); first | refine brT ?_ | refine brF ?_)); conv => whnf)
  refine ⟨[], _, _, _, _, toIntS_h g (by omega), rfl, rfl, rfl, trivial, ?_⟩
  ((repeat ((conv => whnf); first | refine brT ?_ | refine brF ?_)); conv => whnf)
  refine ⟨rfl, ?_⟩
  ((repeat ((conv => whnf); first | refine brT ?_ | refine brF ?_)); conv => whnf)
  refine ⟨rfl, ?_⟩
  ((repeat ((conv => whnf); first | refine brT ?_ | refine brF ?_)); conv => whnf)
  refine ⟨_, eqIntS_spec g g, ?_⟩
  rw [eqIntS_refl]
  ((repeat ((conv => whnf); first | refine brT ?_ | refine brF ?_)); conv => whnf)
  rw [show notB true = false by simp [notB]]
  ((repeat ((conv => whnf); first | refine brT ?_ | refine brF ?_)); conv => whnf)
  refine ⟨[2, 3], _, _, _, _, markFamily_hm ps us 1 (by omega), rfl, rfl, rfl, trivial, ?_⟩
  ((repeat ((conv => whnf); first | refine brT ?_ | refine brF ?_)); conv => whnf)
  refine ⟨[5, 6], _, _, _, _, markClasses_spec w c _ _ rfl rfl ((1 + 6 * ps.length + 4 * us.length : Nat) : Int) (by omega) (by omega), rfl, rfl, rfl, trivial, ?_⟩
  ((repeat ((conv => whnf); first | refine brT ?_ | refine brF ?_)); conv => whnf)
  refine ⟨[8], _, _, _, _, markIntS_spec g _ rfl (((1 + 6 * ps.length + 4 * us.length : Nat) : Int) + w.length + c.length) (by omega) (by omega), rfl, rfl, rfl, trivial, ?_⟩
  ((repeat ((conv => whnf); first | refine brT ?_ | refine brF ?_)); conv => whnf)
  rw [show ltI (((1 + 6 * ps.length + 4 * us.length : Nat) : Int) + (w.length : Int) + (c.length : Int) + (g.length : Int)) 0 = false by rw [ltI_f]; omega]
  ((repeat ((conv => whnf); first | refine brT ?_ | refine brF ?_)); conv => whnf)
  refine ⟨rfl, ?_⟩
  ((repeat ((conv => whnf); first | refine brT ?_ | refine brF ?_)); conv => whnf)
  refine ⟨_, eqIntS_spec R R, ?_⟩
  rw [eqIntS_refl]
  ((repeat ((conv => whnf); first | refine brT ?_ | refine brF ?_)); conv => whnf)
  rw [show notB true = false by simp [notB]]
  ((repeat ((conv => whnf); first | refine brT ?_ | refine brF ?_)); conv => whnf)
  refine ⟨[9], _, _, _, _, markIntS_spec R _ rfl 1 (by omega) (by omega), rfl, rfl, rfl, trivial, ?_⟩
  ((repeat ((conv => whnf); first | refine brT ?_ | refine brF ?_)); conv => whnf)
  refine ⟨by simp [marks_len], ?_⟩
  ((repeat ((conv => whnf); first | refine brT ?_ | refine brF ?_)); conv => whnf)
  refine ⟨_, heldIntS_spec 1 R.length (by omega) (by omega), ?_⟩
  ((repeat ((conv => whnf); first | refine brT ?_ | refine brF ?_)); conv => whnf)
  rw [show ltI (1 + (R.length : Int)) 0 = false by rw [ltI_f]; omega]
  ((repeat ((conv => whnf); first | refine brT ?_ | refine brF ?_)); conv => whnf)
  rw [show notB (eqI (1 + (R.length : Int)) (1 + (R.length : Int))) = false by simp [notB, eqI_refl]]
  ((repeat ((conv => whnf); first | refine brT ?_ | refine brF ?_)); conv => whnf)
  refine ⟨true, by kernel_rfl, ?_⟩
  ((repeat ((conv => whnf); first | refine brT ?_ | refine brF ?_)); conv => whnf)
  refine ⟨_, toFamily_spec ps us p1 u1, ?_⟩
  ((repeat ((conv => whnf); first | refine brT ?_ | refine brF ?_)); conv => whnf)
  refine ⟨_, toClasses_f w c (by omega) (by omega), ?_⟩
  ((repeat ((conv => whnf); first | refine brT ?_ | refine brF ?_)); conv => whnf)
  refine ⟨_, toIntS_f g (by omega), ?_⟩
  ((repeat ((conv => whnf); first | refine brT ?_ | refine brF ?_)); conv => whnf)
  refine ⟨_, hF, ?_⟩
  rw [show flatT (rowOw R) = true from flat_ints R]
  ((repeat ((conv => whnf); first | refine brT ?_ | refine brF ?_)); conv => whnf)
  refine ⟨_, eqIntS_spec R R, ?_⟩
  rw [eqIntS_refl]
  ((repeat ((conv => whnf); first | refine brT ?_ | refine brF ?_)); conv => whnf)
  rw [show notB true = false by simp [notB]]
  ((repeat ((conv => whnf); first | refine brT ?_ | refine brF ?_)); conv => whnf)
  refine ⟨by simp [marks_len], ?_⟩
  ((repeat ((conv => whnf); first | refine brT ?_ | refine brF ?_)); conv => whnf)
  refine ⟨_, heldIntS_spec 1 R.length (by omega) (by omega), ?_⟩
  ((repeat ((conv => whnf); first | refine brT ?_ | refine brF ?_)); conv => whnf)
  rw [show ltI (1 + (R.length : Int)) 0 = false by rw [ltI_f]; omega]
  ((repeat ((conv => whnf); first | refine brT ?_ | refine brF ?_)); conv => whnf)
  rw [show notB (eqI (1 + (R.length : Int)) (1 + (R.length : Int))) = false by simp [notB, eqI_refl]]
  ((repeat ((conv => whnf); first | refine brT ?_ | refine brF ?_)); conv => whnf)
  exact fin rfl
end Go.Proofs.Ytgkjafmmekjjlaa

