/- Contracts of functions of the program and of its model, told over readings. -/
import Derived.Test.YtdhmnojnkgmmnaaBWGC
import Derived.Test.YtdhmnojnkgmmnaaBWGB
import Derived.Test.YtdhmnojnkgmmnaaBLgRM
import Derived.Test.YtdhmnojnkgmmnaaBWGA
import Derived.Test.YtdhmnojnkgmmnaaBLgW
namespace Go.Proofs.Ytdhmnojnkgmmnaa
open Go.Lg Go.Pm
set_option maxHeartbeats 6400000
set_option maxRecDepth 10000
set_option linter.unusedVariables false
set_option linter.unusedSimpArgs false

/-! ### Persons in another order -/
def plcV (ps : List Int) : LV := match permB ps with | true => .tup [rowOw (inv ps), .bool true] | false => .tup [.nil, .bool false]
theorem plc_f {f : FuncId} {args : List LV} {ps : List Int} (h : HSpec env.P f args [] (plcR ps) (plcH ps)) : FSpec env.P f args (plcV ps) := by
  unfold plcR plcH at h
  unfold plcV
  cases hp : permB ps <;> rw [hp] at h
  · exact FSpec_of_HSpecT h (by simp [exW, exsW])
  · refine FSpec_of_HSpecT h ?_
    have : ps.length = ((inv ps).map intLV).length := by simp [inv_len]
    rw [this]
    unfold rowOw; simp [exW, exsW]
theorem l1Inverse_ne (ps : List Int) (n : Nat) (hn : n ≠ ps.length) (hb : n ≤ 1048576) : FSpec env.P 128 [rowSl ps, .int .i64 (n : Int)] (.tup [.nil, .bool false]) := by
  refine FSpec_of_code env_ok (fn := Try.f128) Try.func128 rfl Try.call128 _ _ ?_
  have hp' : n ≤ Go.maxLen := by unfold Go.maxLen; omega
  have hu : (unit n).length = n := unit_len n
  ((repeat ((conv => whnf); first | refine brT ?_ | refine brF ?_)); conv => whnf)
  refine ⟨n, by simp, by simp, by show 8 * n ≤ _; omega, hp', rfl, by decide, ?_⟩
  ((repeat ((conv => whnf); first | refine brT ?_ | refine brF ?_)); conv => whnf)
  refine ⟨by simp, fun _ => ?_⟩
  ((repeat ((conv => whnf); first | refine brT ?_ | refine brF ?_)); conv => whnf)
  refine loop_rule (α := Nat) (fun k => [(14, .int .i64 (k : Int))]) (fun k => [.arr 3 1 (fillLV (fun _ : Int => intLV (-1)) (intLV 0) (unit n) k)]) (fun k => n - k) (fun k => k ≤ n) 0 (Nat.zero_le _) ?_ ?_
  · refine ⟨?_, ⟨by simp [fillLV, intLV, hu], trivial⟩, rfl, rfl⟩
    ((repeat ((conv => whnf); refine ⟨rfl, ?_⟩)); trivial)
  intro k hk
  have hfl : (fillLV (fun _ : Int => intLV (-1)) (intLV 0) (unit n) k).length = n := by rw [fill_len (by omega), hu]
  ((repeat ((conv => whnf); first | refine brT ?_ | refine brF ?_)); conv => whnf)
  (refine ⟨fun h1 => ?_, fun h1 => ?_⟩ <;> rw [h1])
  · have hlt : k < n := by rw [ltI_t] at h1; simp at h1; omega
    have hlu : k < (unit n).length := by omega
    have e := step_i hlt hp'
    ((repeat ((conv => whnf); first | refine brT ?_ | refine brF ?_)); conv => whnf)
    refine ⟨hfl.symm, rfl, k, rfl, by rw [hfl]; exact hlt, ?_⟩
    ((repeat ((conv => whnf); first | refine brT ?_ | refine brF ?_)); conv => whnf)
    refine ⟨hfl.symm, k, [], intLV 0, rfl, by simp [getP, fill_get hlu], rfl, rfl, rfl, fillLV (fun _ : Int => intLV (-1)) (intLV 0) (unit n) (k + 1), by rw [fill_get hlu]; exact fill_set (lv := fun _ : Int => intLV (-1)) hlu, ?_⟩
    ((repeat ((conv => whnf); first | refine brT ?_ | refine brF ?_)); conv => whnf)
    refine round_end (k + 1) hlt (by omega) ⟨?_, ⟨rfl, trivial⟩, rfl, rfl⟩
    ((repeat ((conv => whnf); first | refine ⟨e, ?_⟩ | refine ⟨rfl, ?_⟩)); trivial)
  ((repeat ((conv => whnf); first | refine brT ?_ | refine brF ?_)); conv => whnf)
  intro _
  ((repeat ((conv => whnf); first | refine brT ?_ | refine brF ?_)); conv => whnf)
  rw [show notB (eqI ((ps.map intLV).length : Int) (n : Int)) = true by rw [notB_t, eqI_f, List.length_map]; omega]
  ((repeat ((conv => whnf); first | refine brT ?_ | refine brF ?_)); conv => whnf)
  (repeat (first | exact List.nodup_nil | refine ⟨rfl, ?_⟩))
def mvX (v : List Int) (x : Int) : Int := match eqI x (-1) with | true => -1 | false => v.getD x.toNat 0
theorem mvX_none (v : List Int) : mvX v (-1) = -1 := by unfold mvX; rw [eqI_refl]
theorem mvX_some {v : List Int} {x : Int} (h : 0 ≤ x) : mvX v x = v.getD x.toNat 0 := by
  unfold mvX; rw [show eqI x (-1) = false by rw [eqI_f]; omega]
def mvPer (v : List Int) (p : Per) : Per := ⟨p.name, p.sex, mvX v p.father, mvX v p.mother, p.born, p.died⟩
def mvUni (v : List Int) (u : Uni) : Uni := ⟨mvX v u.husband, mvX v u.wife, u.since, u.till⟩
def perD (ps : List Per) (i : Nat) : Per := match ps[i]? with | some p => p | none => ⟨⟨#[]⟩, 0, 0, 0, 0, 0⟩
def mvPs (ps : List Per) (v ord : List Int) : List Per := ord.map fun i => mvPer v (perD ps i.toNat)
def mvUs (v : List Int) (us : List Uni) : List Uni := us.map (mvUni v)
def rowPP (ps : List Per) (v ord : List Int) (k : Nat) : List LV := (mvPs ps v (ord.take k)).map Per.lv
def rowPU (v : List Int) (us : List Uni) (k : Nat) : List LV := (mvUs v (us.take k)).map Uni.lv
theorem rowPP_len {ps : List Per} {v ord : List Int} {k : Nat} (h : k ≤ ord.length) : (rowPP ps v ord k).length = k := by simp [rowPP, mvPs, h]
theorem rowPU_len {v : List Int} {us : List Uni} {k : Nat} (h : k ≤ us.length) : (rowPU v us k).length = k := by simp [rowPU, mvUs, h]
theorem rowPP_succ {ps : List Per} {v ord : List Int} {k : Nat} (h : k < ord.length) {p : Per} (hp : ps[ord[k].toNat]? = some p) : rowPP ps v ord k ++ [(mvPer v p).lv] = rowPP ps v ord (k + 1) := by
  unfold rowPP mvPs
  rw [List.take_succ_eq_append_getElem h, List.map_append, List.map_append]
  simp only [List.map_cons, List.map_nil, perD, hp]
theorem rowPU_succ {v : List Int} {us : List Uni} {k : Nat} (h : k < us.length) : rowPU v us k ++ [(mvUni v us[k]).lv] = rowPU v us (k + 1) := by
  unfold rowPU mvUs
  rw [List.take_succ_eq_append_getElem h, List.map_append, List.map_append]
  simp only [List.map_cons, List.map_nil]
theorem rowPP_all (ps : List Per) (v ord : List Int) : rowPP ps v ord ord.length = (mvPs ps v ord).map Per.lv := by simp [rowPP]
theorem rowPU_all (v : List Int) (us : List Uni) : rowPU v us us.length = (mvUs v us).map Uni.lv := by simp [rowPU]
theorem moved_spec (v : List Int) (x : Int) (h : x = -1 ∨ (0 ≤ x ∧ x.toNat < v.length)) : FSpec env.P 130 [.int .i64 x, .ref (rowSl v)] (.int .i64 (mvX v x)) := by
  refine FSpec_of_code env_ok (fn := Try.f130) Try.func130 rfl Try.call130 _ _ ?_
  ((repeat ((conv => whnf); first | refine brT ?_ | refine brF ?_)); conv => whnf)
  (refine ⟨fun g => ?_, fun g => ?_⟩ <;> rw [g])
  · have e := eqI_t.1 g
    subst e
    ((repeat ((conv => whnf); first | refine brT ?_ | refine brF ?_)); conv => whnf)
    exact ⟨rfl, by rw [mvX_none], List.nodup_nil⟩
  · have e := eqI_f.1 g
    obtain ⟨h0, h1⟩ := h.resolve_left e
    ((repeat ((conv => whnf); first | refine brT ?_ | refine brF ?_)); conv => whnf)
    refine ⟨x.toNat, intLV (v.getD x.toNat 0), by omega, ints_at h0 h1, rfl, ?_⟩
    ((repeat ((conv => whnf); first | refine brT ?_ | refine brF ?_)); conv => whnf)
    exact ⟨rfl, by rw [mvX_some h0], List.nodup_nil⟩
def okPP (ps : List Per) (us : List Uni) (ord : List Int) : Bool := famOk ps us && (eqI (ord.length : Int) (ps.length : Int) && (permB ord && famOk (mvPs ps (inv ord) ord) (mvUs (inv ord) us)))
def ppP (ps : List Per) (us : List Uni) (ord : List Int) : List Per := match okPP ps us ord with | true => mvPs ps (inv ord) ord | false => []
def ppU (ps : List Per) (us : List Uni) (ord : List Int) : List Uni := match okPP ps us ord with | true => mvUs (inv ord) us | false => []
def ppHS (ps : List Per) (us : List Uni) (ord : List Int) : LV := .tup [famHS ((ppP ps us ord).map Per.lv).length ((ppU ps us ord).map Uni.lv).length, .bool (okPP ps us ord)]
def ppLV (ps : List Per) (us : List Uni) (ord : List Int) : LV := .tup [.st [.own 116 6 ((ppP ps us ord).map Per.lv), .own 110 4 ((ppU ps us ord).map Uni.lv)], .bool (okPP ps us ord)]
def ppH (ps : List Per) (us : List Uni) (ord : List Int) : List Blk := [.arr 116 6 ((ppP ps us ord).map Per.lv), .arr 110 4 ((ppU ps us ord).map Uni.lv)]
theorem pp_no {ps : List Per} {us : List Uni} {ord : List Int} (h : okPP ps us ord = false) : ppHS ps us ord = .tup [famHS 0 0, .bool false] ∧ ppH ps us ord = [.arr 116 6 [], .arr 110 4 []] := by
  unfold ppHS ppH ppP ppU; rw [h]; exact ⟨rfl, rfl⟩
theorem pp_yes {ps : List Per} {us : List Uni} {ord : List Int} (h : okPP ps us ord = true) : ppHS ps us ord = .tup [famHS ((mvPs ps (inv ord) ord).map Per.lv).length ((mvUs (inv ord) us).map Uni.lv).length, .bool true] ∧
    ppH ps us ord = [.arr 116 6 ((mvPs ps (inv ord) ord).map Per.lv), .arr 110 4 ((mvUs (inv ord) us).map Uni.lv)] := by
  unfold ppHS ppH ppP ppU; rw [h]; exact ⟨rfl, rfl⟩
theorem perm_at {ord : List Int} (h : permB ord = true) {k : Nat} (hk : k < ord.length) : 0 ≤ ord[k] ∧ ord[k].toNat < ord.length := by
  have := perm_small h ord[k] (List.getElem_mem hk)
  omega
theorem permute_impl (ps : List Per) (us : List Uni) (ord : List Int) (ho : ord.length ≤ 1048576) : HSpec env.P 48 [famLV ps us, rowSl ord] [] (ppHS ps us ord) (ppH ps us ord) := by
  refine HSpec_of_code (E := env.x [131] 0) env_ok.x (fn := Try.f48) Try.func48 rfl Try.call48 _ _ _ _ ?_
  have hP : (ps.map Per.lv).length = ps.length := List.length_map ..
  have hO : (ord.map intLV).length = ord.length := List.length_map ..
  ((repeat ((conv => whnf); first | refine brT ?_ | refine brF ?_)); conv => whnf)
  refine ⟨_, isFamily_impl ps us, ?_⟩
  ((repeat ((conv => whnf); first | refine brT ?_ | refine brF ?_)); conv => whnf)
  cases h1 : famOk ps us
  · have hno := pp_no (ps := ps) (us := us) (ord := ord) (by unfold okPP; rw [h1]; rfl)
    rw [hno.1, hno.2]
    rw [show notB false = true by simp [notB]]
    ((repeat ((conv => whnf); first | refine brT ?_ | refine brF ?_)); conv => whnf)
    exact ⟨[famHS 0 0, .bool false], rfl, rfl, .nl [.tmp 0 [0] false 116 6, .tmp 0 [1] false 110 4] [.old 2, .old 3] ⟨⟨rfl, rfl, rfl, rfl, trivial⟩, ⟨rfl, rfl, rfl, rfl, trivial⟩, rfl⟩⟩
  rw [show notB true = false by simp [notB]]
  ((repeat ((conv => whnf); first | refine brT ?_ | refine brF ?_)); conv => whnf)
  intro _
  ((repeat ((conv => whnf); first | refine brT ?_ | refine brF ?_)); conv => whnf)
  intro _
  ((repeat ((conv => whnf); first | refine brT ?_ | refine brF ?_)); conv => whnf)
  rw [hO, hP]
  cases h2 : eqI (ord.length : Int) (ps.length : Int)
  · have hno := pp_no (ps := ps) (us := us) (ord := ord) (by unfold okPP; rw [h2]; simp)
    rw [hno.1, hno.2]
    rw [show notB false = true by simp [notB]]
    ((repeat ((conv => whnf); first | refine brT ?_ | refine brF ?_)); conv => whnf)
    exact ⟨[famHS 0 0, .bool false], rfl, rfl, .nl [.tmp 0 [0] false 116 6, .tmp 0 [1] false 110 4] [.old 2, .old 3] ⟨⟨rfl, rfl, rfl, rfl, trivial⟩, ⟨rfl, rfl, rfl, rfl, trivial⟩, rfl⟩⟩
  rw [show notB true = false by simp [notB]]
  have hlen : ord.length = ps.length := by rw [eqI_t] at h2; omega
  obtain ⟨l40, u60, hper, huni, _⟩ := famOk_parts h1
  have hpars := parsIn_of hper
  have hpl := plc_f (placesIn_h ord (by omega))
  unfold plcV at hpl
  ((repeat ((conv => whnf); first | refine brT ?_ | refine brF ?_)); conv => whnf)
  cases h3 : permB ord
  · rw [h3] at hpl
    have hno := pp_no (ps := ps) (us := us) (ord := ord) (by unfold okPP; rw [h3]; simp)
    rw [hno.1, hno.2]
    refine ⟨_, hpl, ?_⟩
    ((repeat ((conv => whnf); first | refine brT ?_ | refine brF ?_)); conv => whnf)
    rw [show notB false = true by simp [notB]]
    ((repeat ((conv => whnf); first | refine brT ?_ | refine brF ?_)); conv => whnf)
    exact ⟨[famHS 0 0, .bool false], rfl, rfl, .nl [.tmp 0 [0] false 116 6, .tmp 0 [1] false 110 4] [.old 3, .old 4] ⟨⟨rfl, rfl, rfl, rfl, trivial⟩, ⟨rfl, rfl, rfl, rfl, trivial⟩, rfl⟩⟩
  rw [h3] at hpl
  refine ⟨_, hpl, ?_⟩
  ((repeat ((conv => whnf); first | refine brT ?_ | refine brF ?_)); conv => whnf)
  rw [show notB true = false by simp [notB]]
  have hiv : (inv ord).length = ord.length := inv_len ord
  have hokE : okPP ps us ord = famOk (mvPs ps (inv ord) ord) (mvUs (inv ord) us) := by unfold okPP; rw [h1, h2, h3]; rfl
  generalize hv : inv ord = v at hiv hokE ⊢
  ((repeat ((conv => whnf); first | refine brT ?_ | refine brF ?_)); conv => whnf)
  intro _
  ((repeat ((conv => whnf); first | refine brT ?_ | refine brF ?_)); conv => whnf)
  refine loop_ruleN (α := Nat) [.box 3 [0] false 116 6, .box 3 [1] false 110 4] [.old 0, .old 1, .old 2, .old 3, .old 4, .old 5] (fun k => [(38, .int .i64 (k : Int))])
    (fun k => [.box (famLV ps us), .box (.st [.nil, .nil]), .box (rowSl v), .box (.st [.hs 4 (rowPP ps v ord k).length, .hs 5 0]), .arr 116 6 (rowPP ps v ord k), .arr 110 4 []])
    (fun k => ord.length - k) (fun k => k ≤ ord.length) 0 (Nat.zero_le _) ?_ ?_
  · refine ⟨?_, ⟨rfl, rfl, rfl, rfl, rfl, rfl, rfl, rfl, rfl, rfl, rfl, rfl, trivial⟩, rfl⟩
    ((repeat ((conv => whnf); refine ⟨rfl, rfl, ?_⟩)); trivial)
  intro k hk
  generalize hK : kk _ = KK
  ((repeat ((conv => whnf); first | refine brT ?_ | refine brF ?_)); conv => whnf)
  (refine ⟨fun g1 => ?_, fun g1 => ?_⟩ <;> rw [g1])
  · have hlt : k < ord.length := by rw [ltI_t] at g1; simp at g1; omega
    have e := step_i hlt (by unfold Go.maxLen; omega)
    obtain ⟨o0, ol⟩ := perm_at h3 hlt
    have oi : ord[k].toNat < ps.length := by omega
    obtain ⟨f1, f2⟩ := hpars _ oi
    have hsu : rowPP ps v ord k ++ [LV.st [.str ps[ord[k].toNat].name, .int .i64 ps[ord[k].toNat].sex, .int .i64 (mvX v ps[ord[k].toNat].father), .int .i64 (mvX v ps[ord[k].toNat].mother), .int .i64 ps[ord[k].toNat].born, .int .i64 ps[ord[k].toNat].died]] = rowPP ps v ord (k + 1) := rowPP_succ hlt (by simp [oi])
    have hl1 := rowPP_len (ps := ps) (v := v) (ord := ord) (k := k + 1) hlt
    have m1 := moved_spec v ps[ord[k].toNat].father (by rcases f1 with f1 | f1 <;> omega)
    have m2 := moved_spec v ps[ord[k].toNat].mother (by rcases f2 with f2 | f2 <;> omega)
    ((repeat ((conv => whnf); first | refine brT ?_ | refine brF ?_)); conv => whnf)
    refine ⟨k, intLV ord[k], rfl, by simp [hlt], rfl, ?_⟩
    ((repeat ((conv => whnf); first | refine brT ?_ | refine brF ?_)); conv => whnf)
    refine ⟨ord[k].toNat, ps[ord[k].toNat].lv, by omega, by simp [oi], rfl, ?_⟩
    ((repeat ((conv => whnf); first | refine brT ?_ | refine brF ?_)); conv => whnf)
    refine ⟨true, by kernel_rfl, ?_⟩
    ((repeat ((conv => whnf); first | refine brT ?_ | refine brF ?_)); conv => whnf)
    refine ⟨_, m1, ?_⟩
    ((repeat ((conv => whnf); first | refine brT ?_ | refine brF ?_)); conv => whnf)
    refine ⟨_, m2, ?_⟩
    ((repeat ((conv => whnf); first | refine brT ?_ | refine brF ?_)); conv => whnf)
    refine ⟨rfl, rfl, ?_, ?_, ?_⟩
    · rw [hsu, hl1]; unfold Go.maxLen; omega
    · rw [hsu, hl1]; show (k + 1) * 56 ≤ _; omega
    rw [hsu]
    ((repeat ((conv => whnf); first | refine brT ?_ | refine brF ?_)); conv => whnf)
    subst hK
    refine round_endR [.old 0, .old 1, .old 2, .old 3, .old 8, .old 5] (k + 1) hlt (by omega) ⟨?_, ⟨rfl, rfl, rfl, rfl, rfl, rfl, rfl, rfl, rfl, rfl, rfl, rfl, trivial⟩, rfl⟩
    ((repeat ((conv => whnf); first | refine ⟨rfl, e, ?_⟩ | refine ⟨rfl, rfl, ?_⟩)); trivial)
  have h4 : k = ord.length := by rw [ltI_f] at g1; simp at g1; omega
  subst h4
  subst hK
  ((repeat ((conv => whnf); first | refine brT ?_ | refine brF ?_)); conv => whnf)
  intro hum
  have hu' : us.length ≤ Go.maxLen := by simpa using hum
  ((repeat ((conv => whnf); first | refine brT ?_ | refine brF ?_)); conv => whnf)
  refine loop_ruleR (α := Nat) [.old 0, .old 1, .old 2, .old 3, .old 4, .old 5] (fun j => [(67, .int .i64 (j : Int))])
    (fun j => [.box (famLV ps us), .box (.st [.nil, .nil]), .box (rowSl v), .box (.st [.hs 4 (rowPP ps v ord ord.length).length, .hs 5 (rowPU v us j).length]), .arr 116 6 (rowPP ps v ord ord.length), .arr 110 4 (rowPU v us j)])
    (fun j => us.length - j) (fun j => j ≤ us.length) 0 (Nat.zero_le _) ?_ ?_
  · refine ⟨?_, ⟨rfl, rfl, rfl, rfl, rfl, rfl, rfl, rfl, rfl, rfl, rfl, rfl, trivial⟩, rfl⟩
    ((repeat ((conv => whnf); refine ⟨rfl, rfl, ?_⟩)); trivial)
  intro j hj
  generalize hK : kk _ = KK
  ((repeat ((conv => whnf); first | refine brT ?_ | refine brF ?_)); conv => whnf)
  (refine ⟨fun g2 => ?_, fun g2 => ?_⟩ <;> rw [g2])
  · have hlt : j < us.length := by rw [ltI_t] at g2; simp at g2; omega
    have e := step_i hlt hu'
    obtain ⟨⟨m0, ml⟩, ⟨w0, wl⟩⟩ := uni_in h1 (g := v) (by omega) us[j] (List.getElem_mem hlt)
    have hsu : rowPU v us j ++ [LV.st [.int .i64 (mvX v us[j].husband), .int .i64 (mvX v us[j].wife), .int .i64 us[j].since, .int .i64 us[j].till]] = rowPU v us (j + 1) := rowPU_succ hlt
    have hl1 := rowPU_len (v := v) (us := us) (k := j + 1) hlt
    have m1 := moved_spec v us[j].husband (.inr ⟨m0, ml⟩)
    have m2 := moved_spec v us[j].wife (.inr ⟨w0, wl⟩)
    ((repeat ((conv => whnf); first | refine brT ?_ | refine brF ?_)); conv => whnf)
    refine ⟨j, us[j].lv, rfl, by simp [hlt], rfl, ?_⟩
    ((repeat ((conv => whnf); first | refine brT ?_ | refine brF ?_)); conv => whnf)
    refine ⟨true, by kernel_rfl, ?_⟩
    ((repeat ((conv => whnf); first | refine brT ?_ | refine brF ?_)); conv => whnf)
    refine ⟨_, m1, ?_⟩
    ((repeat ((conv => whnf); first | refine brT ?_ | refine brF ?_)); conv => whnf)
    refine ⟨_, m2, ?_⟩
    ((repeat ((conv => whnf); first | refine brT ?_ | refine brF ?_)); conv => whnf)
    refine ⟨rfl, rfl, ?_, ?_, ?_⟩
    · rw [hsu, hl1]; unfold Go.maxLen; omega
    · rw [hsu, hl1]; show (j + 1) * 32 ≤ _; omega
    rw [hsu]
    ((repeat ((conv => whnf); first | refine brT ?_ | refine brF ?_)); conv => whnf)
    subst hK
    refine round_endR [.old 0, .old 1, .old 2, .old 3, .old 4, .old 8] (j + 1) hlt (by omega) ⟨?_, ⟨rfl, rfl, rfl, rfl, rfl, rfl, rfl, rfl, rfl, rfl, rfl, rfl, trivial⟩, rfl⟩
    ((repeat ((conv => whnf); first | refine ⟨rfl, e, ?_⟩ | refine ⟨rfl, rfl, ?_⟩)); trivial)
  have h5 : j = us.length := by rw [ltI_f] at g2; simp at g2; omega
  subst h5
  subst hK
  rw [rowPP_all, rowPU_all]
  ((repeat ((conv => whnf); first | refine brT ?_ | refine brF ?_)); conv => whnf)
  cases g3 : famOk (mvPs ps v ord) (mvUs v us)
  · have hno := pp_no (ps := ps) (us := us) (ord := ord) (by rw [hokE, g3])
    rw [hno.1, hno.2]
    refine ⟨[4, 5], _, _, _, _, validFamily_no (mvPs ps v ord) (mvUs v us) g3, rfl, rfl, rfl, trivial, ?_⟩
    ((repeat ((conv => whnf); first | refine brT ?_ | refine brF ?_)); conv => whnf)
    exact ⟨[famHS 0 0, .bool false], rfl, rfl, .nl [.tmp 0 [0] false 116 6, .tmp 0 [1] false 110 4] [.old 6, .old 7] ⟨⟨rfl, rfl, rfl, rfl, trivial⟩, ⟨rfl, rfl, rfl, rfl, trivial⟩, rfl⟩⟩
  · have hyes := pp_yes (ps := ps) (us := us) (ord := ord) (by rw [hokE, g3])
    rw [hv] at hyes
    rw [hyes.1, hyes.2]
    refine ⟨[4, 5], _, _, _, _, validFamily_yes (mvPs ps v ord) (mvUs v us) g3, rfl, rfl, rfl, trivial, ?_⟩
    ((repeat ((conv => whnf); first | refine brT ?_ | refine brF ?_)); conv => whnf)
    exact ⟨[famHS ((mvPs ps v ord).map Per.lv).length ((mvUs v us).map Uni.lv).length, .bool true], rfl, rfl, .inr ⟨[.old 4, .old 5], ⟨rfl, rfl, rfl, rfl, trivial⟩, ⟨rfl, rfl, rfl, rfl, trivial⟩, rfl⟩⟩
end Go.Proofs.Ytdhmnojnkgmmnaa


namespace Go.Proofs.Ytdhmnojnkgmmnaa
open Go.Lg Go.Pm
set_option maxHeartbeats 6400000
set_option maxRecDepth 10000
set_option linter.unusedVariables false
set_option linter.unusedSimpArgs false

theorem permute_spec (ps : List Per) (us : List Uni) (ord : List Int) (hp : ps.length ≤ 1048576) (ho : ord.length ≤ 1048576) : HSpec env.P 47 [famLV ps us, rowSl ord] [] (ppHS ps us ord) (ppH ps us ord) := by
  refine HSpec_of_code (E := env.x [] 0) env_ok.x (fn := Try.f47) Try.func47 rfl Try.call47 _ _ _ _ ?_
  have hP : (ps.map Per.lv).length = ps.length := List.length_map ..
  have hO : (ord.map intLV).length = ord.length := List.length_map ..
  ((repeat ((conv => whnf); first | refine brT ?_ | refine brF ?_)); conv => whnf)
  intro _
  rw [hP]
  ((repeat ((conv => whnf); first | refine brT ?_ | refine brF ?_)); conv => whnf)
  cases h2 : eqI (ord.length : Int) (ps.length : Int)
  · refine ⟨_, l1Inverse_ne ord ps.length (by rw [eqI_f] at h2; omega) hp, ?_⟩
    have hno := pp_no (ps := ps) (us := us) (ord := ord) (by unfold okPP; rw [h2]; simp)
    rw [hno.1, hno.2]
    ((repeat ((conv => whnf); first | refine brT ?_ | refine brF ?_)); conv => whnf)
    rw [show notB false = true by simp [notB]]
    ((repeat ((conv => whnf); first | refine brT ?_ | refine brF ?_)); conv => whnf)
    exact ⟨[famHS 0 0, .bool false], rfl, rfl, .nl [.tmp 0 [0] false 116 6, .tmp 0 [1] false 110 4] [.old 2, .old 3] ⟨⟨rfl, rfl, rfl, rfl, trivial⟩, ⟨rfl, rfl, rfl, rfl, trivial⟩, rfl⟩⟩
  have hlen : ord.length = ps.length := by rw [eqI_t] at h2; omega
  rw [← hlen]
  have hpl := plc_f (l1Inverse_h ord (by omega))
  unfold plcV at hpl
  cases h3 : permB ord
  · rw [h3] at hpl
    refine ⟨_, hpl, ?_⟩
    have hno := pp_no (ps := ps) (us := us) (ord := ord) (by unfold okPP; rw [h3]; simp)
    rw [hno.1, hno.2]
    ((repeat ((conv => whnf); first | refine brT ?_ | refine brF ?_)); conv => whnf)
    rw [show notB false = true by simp [notB]]
    ((repeat ((conv => whnf); first | refine brT ?_ | refine brF ?_)); conv => whnf)
    exact ⟨[famHS 0 0, .bool false], rfl, rfl, .nl [.tmp 0 [0] false 116 6, .tmp 0 [1] false 110 4] [.old 2, .old 3] ⟨⟨rfl, rfl, rfl, rfl, trivial⟩, ⟨rfl, rfl, rfl, rfl, trivial⟩, rfl⟩⟩
  rw [h3] at hpl
  refine ⟨_, hpl, ?_⟩
  ((repeat ((conv => whnf); first | refine brT ?_ | refine brF ?_)); conv => whnf)
  rw [show notB true = false by simp [notB]]
  ((repeat ((conv => whnf); first | refine brT ?_ | refine brF ?_)); conv => whnf)
  refine ⟨_, isFamily_spec ps us, ?_⟩
  ((repeat ((conv => whnf); first | refine brT ?_ | refine brF ?_)); conv => whnf)
  cases h1 : famOk ps us
  · rw [show notB false = true by simp [notB]]
    have hno := pp_no (ps := ps) (us := us) (ord := ord) (by unfold okPP; rw [h1]; rfl)
    rw [hno.1, hno.2]
    ((repeat ((conv => whnf); first | refine brT ?_ | refine brF ?_)); conv => whnf)
    exact ⟨[famHS 0 0, .bool false], rfl, rfl, .nl [.tmp 0 [0] false 116 6, .tmp 0 [1] false 110 4] [.old 2, .old 3] ⟨⟨rfl, rfl, rfl, rfl, trivial⟩, ⟨rfl, rfl, rfl, rfl, trivial⟩, rfl⟩⟩
  rw [show notB true = false by simp [notB]]
  obtain ⟨l40, u60, hper, huni, _⟩ := famOk_parts h1
  have hpars := parsIn_of hper
  have hiv : (inv ord).length = ord.length := inv_len ord
  have hokE : okPP ps us ord = famOk (mvPs ps (inv ord) ord) (mvUs (inv ord) us) := by unfold okPP; rw [h1, h2, h3]; rfl
  generalize hv : inv ord = v at hiv hokE ⊢
  ((repeat ((conv => whnf); first | refine brT ?_ | refine brF ?_)); conv => whnf)
  intro _
  ((repeat ((conv => whnf); first | refine brT ?_ | refine brF ?_)); conv => whnf)
  refine loop_ruleN (α := Nat) [.box 2 [0] false 116 6, .box 2 [1] false 110 4] [.old 0, .old 1, .old 2, .old 3, .old 4] (fun k => [(33, .int .i64 (k : Int))])
    (fun k => [.box (famLV ps us), .box (.st [.nil, .nil]), .box (.st [.hs 3 (rowPP ps v ord k).length, .hs 4 0]), .arr 116 6 (rowPP ps v ord k), .arr 110 4 []])
    (fun k => ord.length - k) (fun k => k ≤ ord.length) 0 (Nat.zero_le _) ?_ ?_
  · refine ⟨?_, ⟨rfl, rfl, rfl, rfl, rfl, rfl, rfl, rfl, rfl, rfl, trivial⟩, rfl⟩
    ((repeat ((conv => whnf); refine ⟨rfl, rfl, ?_⟩)); trivial)
  intro k hk
  generalize hK : kk _ = KK
  ((repeat ((conv => whnf); first | refine brT ?_ | refine brF ?_)); conv => whnf)
  (refine ⟨fun g1 => ?_, fun g1 => ?_⟩ <;> rw [g1])
  · have hlt : k < ord.length := by rw [ltI_t] at g1; simp at g1; omega
    have e := step_i hlt (by unfold Go.maxLen; omega)
    obtain ⟨o0, ol⟩ := perm_at h3 hlt
    have oi : ord[k].toNat < ps.length := by omega
    obtain ⟨f1, f2⟩ := hpars _ oi
    have hsu : rowPP ps v ord k ++ [LV.st [.str ps[ord[k].toNat].name, .int .i64 ps[ord[k].toNat].sex, .int .i64 (mvX v ps[ord[k].toNat].father), .int .i64 (mvX v ps[ord[k].toNat].mother), .int .i64 ps[ord[k].toNat].born, .int .i64 ps[ord[k].toNat].died]] = rowPP ps v ord (k + 1) := rowPP_succ hlt (by simp [oi])
    have hl1 := rowPP_len (ps := ps) (v := v) (ord := ord) (k := k + 1) hlt
    ((repeat ((conv => whnf); first | refine brT ?_ | refine brF ?_)); conv => whnf)
    refine ⟨k, intLV ord[k], rfl, by simp [hlt], rfl, ?_⟩
    ((repeat ((conv => whnf); first | refine brT ?_ | refine brF ?_)); conv => whnf)
    refine ⟨ord[k].toNat, ps[ord[k].toNat].lv, by omega, by simp [oi], rfl, ?_⟩
    generalize ps[ord[k].toNat] = p at f1 f2 hsu ⊢
    obtain ⟨nm, sx, fa, mo, bo, di⟩ := p
    simp only at f1 f2 hsu
    ((repeat ((conv => whnf); first | refine brT ?_ | refine brF ?_)); conv => whnf)
    (refine ⟨fun g3 => ?_, fun g3 => ?_⟩ <;> rw [g3])
    · have g3 : 0 ≤ fa := leI_t.1 g3
      have t1 : fa.toNat < v.length := by rcases f1 with f1 | f1 <;> omega
      rw [mvX_some g3] at hsu
      ((repeat ((conv => whnf); first | refine brT ?_ | refine brF ?_)); conv => whnf)
      refine ⟨fa.toNat, intLV (v.getD fa.toNat 0), by show fa = ((fa.toNat : Nat) : Int); omega, ints_at g3 t1, rfl, ?_⟩
      ((repeat ((conv => whnf); first | refine brT ?_ | refine brF ?_)); conv => whnf)
      (refine ⟨fun g4 => ?_, fun g4 => ?_⟩ <;> rw [g4])
      · have g4 : 0 ≤ mo := leI_t.1 g4
        have t2 : mo.toNat < v.length := by rcases f2 with f2 | f2 <;> omega
        rw [mvX_some g4] at hsu
        ((repeat ((conv => whnf); first | refine brT ?_ | refine brF ?_)); conv => whnf)
        refine ⟨mo.toNat, intLV (v.getD mo.toNat 0), by show mo = ((mo.toNat : Nat) : Int); omega, ints_at g4 t2, rfl, ?_⟩
        ((repeat ((conv => whnf); first | refine brT ?_ | refine brF ?_)); conv => whnf)
        refine ⟨rfl, rfl, ?_, ?_, ?_⟩
        · rw [hsu, hl1]; unfold Go.maxLen; omega
        · rw [hsu, hl1]; show (k + 1) * 56 ≤ _; omega
        rw [hsu]
        ((repeat ((conv => whnf); first | refine brT ?_ | refine brF ?_)); conv => whnf)
        subst hK
        refine round_endR [.old 0, .old 1, .old 2, .old 7, .old 4] (k + 1) hlt (by omega) ⟨?_, ⟨rfl, rfl, rfl, rfl, rfl, rfl, rfl, rfl, rfl, rfl, trivial⟩, rfl⟩
        ((repeat ((conv => whnf); first | refine ⟨rfl, e, ?_⟩ | refine ⟨rfl, rfl, ?_⟩)); trivial)
      · have g4 : mo < 0 := leI_f.1 g4
        have t2 : mo = -1 := by rcases f2 with f2 | f2 <;> omega
        subst t2
        rw [mvX_none] at hsu
        ((repeat ((conv => whnf); first | refine brT ?_ | refine brF ?_)); conv => whnf)
        refine ⟨rfl, rfl, ?_, ?_, ?_⟩
        · rw [hsu, hl1]; unfold Go.maxLen; omega
        · rw [hsu, hl1]; show (k + 1) * 56 ≤ _; omega
        rw [hsu]
        ((repeat ((conv => whnf); first | refine brT ?_ | refine brF ?_)); conv => whnf)
        subst hK
        refine round_endR [.old 0, .old 1, .old 2, .old 7, .old 4] (k + 1) hlt (by omega) ⟨?_, ⟨rfl, rfl, rfl, rfl, rfl, rfl, rfl, rfl, rfl, rfl, trivial⟩, rfl⟩
        ((repeat ((conv => whnf); first | refine ⟨rfl, e, ?_⟩ | refine ⟨rfl, rfl, ?_⟩)); trivial)
    · have g3 : fa < 0 := leI_f.1 g3
      have t1 : fa = -1 := by rcases f1 with f1 | f1 <;> omega
      subst t1
      rw [mvX_none] at hsu
      ((repeat ((conv => whnf); first | refine brT ?_ | refine brF ?_)); conv => whnf)
      (refine ⟨fun g4 => ?_, fun g4 => ?_⟩ <;> rw [g4])
      · have g4 : 0 ≤ mo := leI_t.1 g4
        have t2 : mo.toNat < v.length := by rcases f2 with f2 | f2 <;> omega
        rw [mvX_some g4] at hsu
        ((repeat ((conv => whnf); first | refine brT ?_ | refine brF ?_)); conv => whnf)
        refine ⟨mo.toNat, intLV (v.getD mo.toNat 0), by show mo = ((mo.toNat : Nat) : Int); omega, ints_at g4 t2, rfl, ?_⟩
        ((repeat ((conv => whnf); first | refine brT ?_ | refine brF ?_)); conv => whnf)
        refine ⟨rfl, rfl, ?_, ?_, ?_⟩
        · rw [hsu, hl1]; unfold Go.maxLen; omega
        · rw [hsu, hl1]; show (k + 1) * 56 ≤ _; omega
        rw [hsu]
        ((repeat ((conv => whnf); first | refine brT ?_ | refine brF ?_)); conv => whnf)
        subst hK
        refine round_endR [.old 0, .old 1, .old 2, .old 7, .old 4] (k + 1) hlt (by omega) ⟨?_, ⟨rfl, rfl, rfl, rfl, rfl, rfl, rfl, rfl, rfl, rfl, trivial⟩, rfl⟩
        ((repeat ((conv => whnf); first | refine ⟨rfl, e, ?_⟩ | refine ⟨rfl, rfl, ?_⟩)); trivial)
      · have g4 : mo < 0 := leI_f.1 g4
        have t2 : mo = -1 := by rcases f2 with f2 | f2 <;> omega
        subst t2
        rw [mvX_none] at hsu
        ((repeat ((conv => whnf); first | refine brT ?_ | refine brF ?_)); conv => whnf)
        refine ⟨rfl, rfl, ?_, ?_, ?_⟩
        · rw [hsu, hl1]; unfold Go.maxLen; omega
        · rw [hsu, hl1]; show (k + 1) * 56 ≤ _; omega
        rw [hsu]
        ((repeat ((conv => whnf); first | refine brT ?_ | refine brF ?_)); conv => whnf)
        subst hK
        refine round_endR [.old 0, .old 1, .old 2, .old 7, .old 4] (k + 1) hlt (by omega) ⟨?_, ⟨rfl, rfl, rfl, rfl, rfl, rfl, rfl, rfl, rfl, rfl, trivial⟩, rfl⟩
        ((repeat ((conv => whnf); first | refine ⟨rfl, e, ?_⟩ | refine ⟨rfl, rfl, ?_⟩)); trivial)
  have h4 : k = ord.length := by rw [ltI_f] at g1; simp at g1; omega
  subst h4
  subst hK
  ((repeat ((conv => whnf); first | refine brT ?_ | refine brF ?_)); conv => whnf)
  intro hum
  have hu' : us.length ≤ Go.maxLen := by simpa using hum
  ((repeat ((conv => whnf); first | refine brT ?_ | refine brF ?_)); conv => whnf)
  refine loop_ruleR (α := Nat) [.old 0, .old 1, .old 2, .old 3, .old 4] (fun j => [(70, .int .i64 (j : Int))])
    (fun j => [.box (famLV ps us), .box (.st [.nil, .nil]), .box (.st [.hs 3 (rowPP ps v ord ord.length).length, .hs 4 (rowPU v us j).length]), .arr 116 6 (rowPP ps v ord ord.length), .arr 110 4 (rowPU v us j)])
    (fun j => us.length - j) (fun j => j ≤ us.length) 0 (Nat.zero_le _) ?_ ?_
  · refine ⟨?_, ⟨rfl, rfl, rfl, rfl, rfl, rfl, rfl, rfl, rfl, rfl, trivial⟩, rfl⟩
    ((repeat ((conv => whnf); refine ⟨rfl, rfl, ?_⟩)); trivial)
  intro j hj
  generalize hK : kk _ = KK
  ((repeat ((conv => whnf); first | refine brT ?_ | refine brF ?_)); conv => whnf)
  (refine ⟨fun g2 => ?_, fun g2 => ?_⟩ <;> rw [g2])
  · have hlt : j < us.length := by rw [ltI_t] at g2; simp at g2; omega
    have e := step_i hlt hu'
    obtain ⟨⟨m0, ml⟩, ⟨w0, wl⟩⟩ := uni_in h1 (g := v) (by omega) us[j] (List.getElem_mem hlt)
    have hsu : rowPU v us j ++ [LV.st [.int .i64 (v.getD us[j].husband.toNat 0), .int .i64 (v.getD us[j].wife.toNat 0), .int .i64 us[j].since, .int .i64 us[j].till]] = rowPU v us (j + 1) := by
      rw [← mvX_some m0, ← mvX_some w0]; exact rowPU_succ hlt
    have hl1 := rowPU_len (v := v) (us := us) (k := j + 1) hlt
    ((repeat ((conv => whnf); first | refine brT ?_ | refine brF ?_)); conv => whnf)
    refine ⟨j, us[j].lv, rfl, by simp [hlt], rfl, ?_⟩
    ((repeat ((conv => whnf); first | refine brT ?_ | refine brF ?_)); conv => whnf)
    refine ⟨false, 0, 0, 3, [0, 1, 2, 3, 4, 5, 6, 7, 8, 9, 10, 11, 12, 13, 14, 15, 16], (.one 17 (.one 18 (.one 19 (.one 20 .done)))), by kernel_rfl, by kernel_rfl, ?_⟩
    ((repeat ((conv => whnf); first | refine brT ?_ | refine brF ?_)); conv => whnf)
    refine ⟨us[j].husband.toNat, intLV (v.getD us[j].husband.toNat 0), by omega, ints_at m0 ml, rfl, ?_⟩
    ((repeat ((conv => whnf); first | refine brT ?_ | refine brF ?_)); conv => whnf)
    refine ⟨us[j].wife.toNat, intLV (v.getD us[j].wife.toNat 0), by omega, ints_at w0 wl, rfl, ?_⟩
    ((repeat ((conv => whnf); first | refine brT ?_ | refine brF ?_)); conv => whnf)
    apply Exists.intro
    apply Exists.intro
    refine And.intro ?_ ?_
    · refine Weak.idn ?_ ?_ rfl
      · ((repeat ((conv => whnf); refine ⟨rfl, ?_⟩)); trivial)
      · exact ⟨rfl, rfl, rfl, rfl, rfl, rfl, rfl, trivial⟩
    ((repeat ((conv => whnf); first | refine brT ?_ | refine brF ?_)); conv => whnf)
    refine ⟨rfl, rfl, ?_, ?_, ?_⟩
    · rw [hsu, hl1]; unfold Go.maxLen; omega
    · rw [hsu, hl1]; show (j + 1) * 32 ≤ _; omega
    rw [hsu]
    ((repeat ((conv => whnf); first | refine brT ?_ | refine brF ?_)); conv => whnf)
    subst hK
    refine round_endR [.old 0, .old 1, .old 2, .old 3, .old 7] (j + 1) hlt (by omega) ⟨?_, ⟨rfl, rfl, rfl, rfl, rfl, rfl, rfl, rfl, rfl, rfl, trivial⟩, rfl⟩
    ((repeat ((conv => whnf); first | refine ⟨rfl, e, ?_⟩ | refine ⟨rfl, rfl, ?_⟩)); trivial)
  have h5 : j = us.length := by rw [ltI_f] at g2; simp at g2; omega
  subst h5
  subst hK
  rw [rowPP_all, rowPU_all]
  ((repeat ((conv => whnf); first | refine brT ?_ | refine brF ?_)); conv => whnf)
  refine ⟨rfl, ?_⟩
  ((repeat ((conv => whnf); first | refine brT ?_ | refine brF ?_)); conv => whnf)
  refine ⟨rfl, ?_⟩
  ((repeat ((conv => whnf); first | refine brT ?_ | refine brF ?_)); conv => whnf)
  refine ⟨_, isFamily_spec (mvPs ps v ord) (mvUs v us), ?_⟩
  ((repeat ((conv => whnf); first | refine brT ?_ | refine brF ?_)); conv => whnf)
  cases g3 : famOk (mvPs ps v ord) (mvUs v us)
  · rw [show notB false = true by simp [notB]]
    have hno := pp_no (ps := ps) (us := us) (ord := ord) (by rw [hokE, g3])
    rw [hno.1, hno.2]
    ((repeat ((conv => whnf); first | refine brT ?_ | refine brF ?_)); conv => whnf)
    exact ⟨[famHS 0 0, .bool false], rfl, rfl, .nl [.tmp 0 [0] false 116 6, .tmp 0 [1] false 110 4] [.old 5, .old 6] ⟨⟨rfl, rfl, rfl, rfl, trivial⟩, ⟨rfl, rfl, rfl, rfl, trivial⟩, rfl⟩⟩
  · rw [show notB true = false by simp [notB]]
    have hyes := pp_yes (ps := ps) (us := us) (ord := ord) (by rw [hokE, g3])
    rw [hv] at hyes
    rw [hyes.1, hyes.2]
    ((repeat ((conv => whnf); first | refine brT ?_ | refine brF ?_)); conv => whnf)
    exact ⟨[famHS ((mvPs ps v ord).map Per.lv).length ((mvUs v us).map Uni.lv).length, .bool true], rfl, rfl, .inr ⟨[.old 3, .old 4], ⟨rfl, rfl, rfl, rfl, trivial⟩, ⟨rfl, rfl, rfl, rfl, trivial⟩, rfl⟩⟩
end Go.Proofs.Ytdhmnojnkgmmnaa


namespace Go.Proofs.Ytdhmnojnkgmmnaa
open Go.Lg Go.Pm
set_option maxHeartbeats 6400000
set_option maxRecDepth 10000
set_option linter.unusedVariables false
set_option linter.unusedSimpArgs false

theorem ppT_f {f : FuncId} {args : List LV} {ps : List Per} {us : List Uni} {ord : List Int} (h : HSpec env.P f args [] (ppHS ps us ord) (ppH ps us ord)) : FSpec env.P f args (ppLV ps us ord) :=
  FSpec_of_HSpecT h (by unfold famHS ppH; simp [exW, exsW])
theorem law_permutePeople (ps : List Per) (us : List Uni) (ord : List Int) (hf : FamOK ps us) (hb : ord.length ≤ Go.maxLen) : FSpec env.P 7 [famLV ps us, rowSl ord] (.bool true) := by
  refine FSpec_of_code (E := env.x [29, 35, 48, 43, 45] 0) env_ok.x (fn := Try.f7) Try.func7 rfl Try.call7 _ _ ?_
  have hG : ((ord.map intLV).length : Int) = (ord.length : Int) := by simp
  ((repeat ((conv => whnf); first | refine brT ?_ | refine brF ?_)); conv => whnf)
  intro _
  ((repeat ((conv => whnf); first | refine brT ?_ | refine brF ?_)); conv => whnf)
  rw [hG]
  (refine ⟨fun h0 => ?_, fun h0 => ?_⟩ <;> rw [h0])
  · ((repeat ((conv => whnf); first | refine brT ?_ | refine brF ?_)); conv => whnf); exact fin rfl
  rw [ltI_f] at h0
  have ho : ord.length ≤ 1048576 := by omega
  ((repeat ((conv => whnf); first | refine brT ?_ | refine brF ?_)); conv => whnf)
  refine ⟨_, szFamily_spec ps us _, ?_⟩
  ((repeat ((conv => whnf); first | refine brT ?_ | refine brF ?_)); conv => whnf)
  (refine ⟨fun h => ?_, fun h => ?_⟩ <;> rw [h])
  · ((repeat ((conv => whnf); first | refine brT ?_ | refine brF ?_)); conv => whnf); exact fin rfl
  rw [ltI_f] at h
  obtain ⟨p1, u1, s1⟩ := szFam_ok (by omega) (by omega) hf h
  have hp : ps.length ≤ 1048576 := szFam_p hf h
  have hu : us.length ≤ 1048576 := szFam_u hf h
  have b1 : 8 * ord.length ≤ 281474976710656 := by omega
  have hS := ppT_f (permute_spec ps us ord hp ho)
  have hI := permute_impl ps us ord ho
  have hP : (ppP ps us ord).length ≤ 1048576 := by
    unfold ppP
    split
    · unfold mvPs; rw [List.length_map]; omega
    · simp
  have hU : (ppU ps us ord).length ≤ 1048576 := by
    unfold ppU
    split
    · unfold mvUs; rw [List.length_map]; exact hu
    · simp
  unfold ppLV at hS
  unfold ppHS ppH at hI
  generalize ppP ps us ord = L1 at hS hI hP
  generalize ppU ps us ord = M1 at hS hI hU
  generalize okPP ps us ord = bb at hS hI
  have hm1 : (L1.map Per.lv).length = ((markPers 1 L1.length).map Per.lv).length := by simp [markPers_len]
  have hm2 : (M1.map Uni.lv).length = ((markUnis (1 + 6 * L1.length) M1.length).map Uni.lv).length := by simp [markUnis_len]
  have hfl : flatT (.tup [.st [.own 116 6 (L1.map Per.lv), .own 110 4 (M1.map Uni.lv)], .bool bb]) = true := by simp [flatT, flatB, flatsB, flats_pers, flats_unis]
  ((repeat ((conv => whnf); first | refine brT ?_ | refine brF ?_)); conv => whnf)
  refine ⟨[], _, _, _, _, toFamily_hm ps us p1 u1, rfl, rfl, rfl, trivial, ?_⟩
  ((repeat ((conv => whnf); first | refine brT ?_ | refine brF ?_)); conv => whnf)
  refine ⟨[], _, _, _, _, toIntS_h ord b1, rfl, rfl, rfl, trivial, ?_⟩
  ((repeat ((conv => whnf); first | refine brT ?_ | refine brF ?_)); conv => whnf)
  refine ⟨rfl, ?_⟩
  ((repeat ((conv => whnf); first | refine brT ?_ | refine brF ?_)); conv => whnf)
  refine ⟨rfl, ?_⟩
  ((repeat ((conv => whnf); first | refine brT ?_ | refine brF ?_)); conv => whnf)
  refine ⟨rfl, ?_⟩
  ((repeat ((conv => whnf); first | refine brT ?_ | refine brF ?_)); conv => whnf)
  refine ⟨_, hS, ?_⟩
  rw [hfl]
  ((repeat ((conv => whnf); first | refine brT ?_ | refine brF ?_)); conv => whnf)
  refine ⟨[], _, _, _, _, toFamily_hm ps us p1 u1, rfl, rfl, rfl, trivial, ?_⟩
  ((repeat ((conv => whnf); first | refine brT ?_ | refine brF ?_)); conv => whnf)
  refine ⟨[], _, _, _, _, toIntS_h ord b1, rfl, rfl, rfl, trivial, ?_⟩
  ((repeat ((conv => whnf); first | refine brT ?_ | refine brF ?_)); conv => whnf)
  refine ⟨[], _, _, _, _, hI, rfl, ?_⟩
  ((repeat ((conv => whnf); first | refine brT ?_ | refine brF ?_)); conv => whnf)
  refine ⟨rfl, ?_⟩
  ((repeat ((conv => whnf); first | refine brT ?_ | refine brF ?_)); conv => whnf)
  refine ⟨rfl, ?_⟩
  ((repeat ((conv => whnf); first | refine brT ?_ | refine brF ?_)); conv => whnf)
  refine ⟨rfl, ?_⟩
  ((repeat ((conv => whnf); first | refine brT ?_ | refine brF ?_)); conv => whnf)
  refine ⟨rfl, rfl, ⟨rfl, flats_pers _, flats_unis _, trivial⟩, ?_⟩
  ((repeat ((conv => whnf); first | refine brT ?_ | refine brF ?_)); conv => whnf)
  refine ⟨rfl, ?_⟩
  ((repeat ((conv => whnf); first | refine brT ?_ | refine brF ?_)); conv => whnf)
  refine ⟨rfl, ?_⟩
  ((repeat ((conv => whnf); first | refine brT ?_ | refine brF ?_)); conv => whnf)
  refine ⟨_, eqFamily_spec L1 L1 M1 M1, ?_⟩
  rw [eqFam_refl]
  ((repeat ((conv => whnf); first | refine brT ?_ | refine brF ?_)); conv => whnf)
  rw [show notB true = false by simp [notB]]
  ((repeat ((conv => whnf); first | refine brT ?_ | refine brF ?_)); conv => whnf)
  rw [eqB_refl, show notB true = false by simp [notB]]
  ((repeat ((conv => whnf); first | refine brT ?_ | refine brF ?_)); conv => whnf)
  refine ⟨true, by kernel_rfl, ?_⟩
  ((repeat ((conv => whnf); first | refine brT ?_ | refine brF ?_)); conv => whnf)
  refine ⟨_, toFamily_spec ps us p1 u1, ?_⟩
  ((repeat ((conv => whnf); first | refine brT ?_ | refine brF ?_)); conv => whnf)
  refine ⟨rfl, ?_⟩
  ((repeat ((conv => whnf); first | refine brT ?_ | refine brF ?_)); conv => whnf)
  refine ⟨rfl, ?_⟩
  ((repeat ((conv => whnf); first | refine brT ?_ | refine brF ?_)); conv => whnf)
  refine ⟨_, eqFamily_spec ps ps us us, ?_⟩
  rw [eqFam_refl]
  ((repeat ((conv => whnf); first | refine brT ?_ | refine brF ?_)); conv => whnf)
  rw [show notB true = false by simp [notB]]
  ((repeat ((conv => whnf); first | refine brT ?_ | refine brF ?_)); conv => whnf)
  refine ⟨[], _, _, _, _, toIntS_h ord b1, rfl, rfl, rfl, trivial, ?_⟩
  ((repeat ((conv => whnf); first | refine brT ?_ | refine brF ?_)); conv => whnf)
  refine ⟨rfl, ?_⟩
  ((repeat ((conv => whnf); first | refine brT ?_ | refine brF ?_)); conv => whnf)
  refine ⟨rfl, ?_⟩
  ((repeat ((conv => whnf); first | refine brT ?_ | refine brF ?_)); conv => whnf)
  refine ⟨_, eqIntS_spec ord ord, ?_⟩
  rw [eqIntS_refl]
  ((repeat ((conv => whnf); first | refine brT ?_ | refine brF ?_)); conv => whnf)
  rw [show notB true = false by simp [notB]]
  ((repeat ((conv => whnf); first | refine brT ?_ | refine brF ?_)); conv => whnf)
  refine ⟨[5, 6], _, _, _, _, markFamily_hm ps us 1 (by omega), rfl, rfl, rfl, trivial, ?_⟩
  ((repeat ((conv => whnf); first | refine brT ?_ | refine brF ?_)); conv => whnf)
  refine ⟨[8], _, _, _, _, markIntS_spec ord _ rfl ((1 + 6 * ps.length + 4 * us.length : Nat) : Int) (by omega) (by omega), rfl, rfl, rfl, trivial, ?_⟩
  ((repeat ((conv => whnf); first | refine brT ?_ | refine brF ?_)); conv => whnf)
  rw [show ltI (((1 + 6 * ps.length + 4 * us.length : Nat) : Int) + (ord.length : Int)) 0 = false by rw [ltI_f]; omega]
  ((repeat ((conv => whnf); first | refine brT ?_ | refine brF ?_)); conv => whnf)
  refine ⟨rfl, ?_⟩
  ((repeat ((conv => whnf); first | refine brT ?_ | refine brF ?_)); conv => whnf)
  refine ⟨rfl, ?_⟩
  ((repeat ((conv => whnf); first | refine brT ?_ | refine brF ?_)); conv => whnf)
  refine ⟨_, eqFamily_spec L1 L1 M1 M1, ?_⟩
  rw [eqFam_refl]
  ((repeat ((conv => whnf); first | refine brT ?_ | refine brF ?_)); conv => whnf)
  rw [show notB true = false by simp [notB]]
  ((repeat ((conv => whnf); first | refine brT ?_ | refine brF ?_)); conv => whnf)
  rw [eqB_refl, show notB true = false by simp [notB]]
  ((repeat ((conv => whnf); first | refine brT ?_ | refine brF ?_)); conv => whnf)
  refine ⟨[9, 10], _, _, _, _, markFamily_hm L1 M1 1 (by omega), rfl, rfl, rfl, trivial, ?_⟩
  ((repeat ((conv => whnf); first | refine brT ?_ | refine brF ?_)); conv => whnf)
  refine ⟨hm1, ?_⟩
  ((repeat ((conv => whnf); first | refine brT ?_ | refine brF ?_)); conv => whnf)
  refine ⟨hm2, ?_⟩
  ((repeat ((conv => whnf); first | refine brT ?_ | refine brF ?_)); conv => whnf)
  refine ⟨_, heldFamily_spec 1 L1.length M1.length (by omega), ?_⟩
  ((repeat ((conv => whnf); first | refine brT ?_ | refine brF ?_)); conv => whnf)
  rw [show ltI ((1 + 6 * L1.length + 4 * M1.length : Nat) : Int) 0 = false by rw [ltI_f]; omega]
  ((repeat ((conv => whnf); first | refine brT ?_ | refine brF ?_)); conv => whnf)
  rw [eqI_refl, show notB true = false by simp [notB]]
  ((repeat ((conv => whnf); first | refine brT ?_ | refine brF ?_)); conv => whnf)
  refine ⟨[], _, _, _, _, toFamily_hm ps us p1 u1, rfl, rfl, rfl, trivial, ?_⟩
  ((repeat ((conv => whnf); first | refine brT ?_ | refine brF ?_)); conv => whnf)
  refine ⟨[], _, _, _, _, toIntS_h ord b1, rfl, rfl, rfl, trivial, ?_⟩
  ((repeat ((conv => whnf); first | refine brT ?_ | refine brF ?_)); conv => whnf)
  refine ⟨[], _, _, _, _, hI, rfl, ?_⟩
  ((repeat ((conv => whnf); first | refine brT ?_ | refine brF ?_)); conv => whnf)
  refine ⟨rfl, ?_⟩
  ((repeat ((conv => whnf); first | refine brT ?_ | refine brF ?_)); conv => whnf)
  refine ⟨rfl, ?_⟩
  ((repeat ((conv => whnf); first | refine brT ?_ | refine brF ?_)); conv => whnf)
  refine ⟨rfl, ?_⟩
  ((repeat ((conv => whnf); first | refine brT ?_ | refine brF ?_)); conv => whnf)
  refine ⟨rfl, rfl, ⟨rfl, flats_pers _, flats_unis _, trivial⟩, ?_⟩
  ((repeat ((conv => whnf); first | refine brT ?_ | refine brF ?_)); conv => whnf)
  refine ⟨rfl, ?_⟩
  ((repeat ((conv => whnf); first | refine brT ?_ | refine brF ?_)); conv => whnf)
  refine ⟨rfl, ?_⟩
  ((repeat ((conv => whnf); first | refine brT ?_ | refine brF ?_)); conv => whnf)
  refine ⟨_, eqFamily_spec L1 L1 M1 M1, ?_⟩
  rw [eqFam_refl]
  ((repeat ((conv => whnf); first | refine brT ?_ | refine brF ?_)); conv => whnf)
  rw [show notB true = false by simp [notB]]
  ((repeat ((conv => whnf); first | refine brT ?_ | refine brF ?_)); conv => whnf)
  rw [eqB_refl, show notB true = false by simp [notB]]
  ((repeat ((conv => whnf); first | refine brT ?_ | refine brF ?_)); conv => whnf)
  refine ⟨hm1, ?_⟩
  ((repeat ((conv => whnf); first | refine brT ?_ | refine brF ?_)); conv => whnf)
  refine ⟨hm2, ?_⟩
  ((repeat ((conv => whnf); first | refine brT ?_ | refine brF ?_)); conv => whnf)
  refine ⟨_, heldFamily_spec 1 L1.length M1.length (by omega), ?_⟩
  ((repeat ((conv => whnf); first | refine brT ?_ | refine brF ?_)); conv => whnf)
  rw [show ltI ((1 + 6 * L1.length + 4 * M1.length : Nat) : Int) 0 = false by rw [ltI_f]; omega]
  ((repeat ((conv => whnf); first | refine brT ?_ | refine brF ?_)); conv => whnf)
  rw [eqI_refl, show notB true = false by simp [notB]]
  ((repeat ((conv => whnf); first | refine brT ?_ | refine brF ?_)); conv => whnf)
  exact fin rfl
end Go.Proofs.Ytdhmnojnkgmmnaa


namespace Go.Proofs.Ytdhmnojnkgmmnaa
open Go.Lg Go.RowKit Go.ChangeShapes Go.WideShapes Go.Deep Go.Joins
set_option linter.unusedVariables false
set_option linter.unusedSimpArgs false
set_option maxRecDepth 100000

theorem list_of {α : Type} {lv : α → LV} {Q : α → Prop} : ∀ (xs : List LV), (∀ x ∈ xs, ∃ p, x = lv p ∧ Q p) → ∃ ps : List α, xs = ps.map lv ∧ ∀ p ∈ ps, Q p
  | [], _ => ⟨[], rfl, by simp⟩
  | x :: xs, h => by
    obtain ⟨p, rfl, hp⟩ := h x (by simp)
    obtain ⟨ps, rfl, hps⟩ := list_of xs fun y hy => h y (by simp [hy])
    exact ⟨p :: ps, rfl, List.forall_mem_cons.2 ⟨hp, hps⟩⟩

section
variable {H : Type} {enc : TypeId × Value → H} {w : World}
end
end Go.Proofs.Ytdhmnojnkgmmnaa


namespace Go.Proofs.Ytdhmnojnkgmmnaa
open Go.Lg
set_option maxRecDepth 10000
set_option linter.unusedVariables false
set_option linter.unusedSimpArgs false

/-! ### A family, out of an argument's shape -/
abbrev shPer : Sh := .st [.str, .int .i64, .int .i64, .int .i64, .int .i64, .int .i64]
abbrev shUni : Sh := .st [.int .i64, .int .i64, .int .i64, .int .i64]
abbrev shFam : Sh := .st [.sl (.st [.str, .int .i64, .int .i64, .int .i64, .int .i64, .int .i64]), .sl (.st [.int .i64, .int .i64, .int .i64, .int .i64])]
theorem per_of_sh {x : LV} (h : hasSh shPer x) : ∃ p : Per, x = p.lv ∧ p.name.size ≤ maxLen := by
  simp only [hasSh] at h
  obtain ⟨xs, rfl, h⟩ := h
  match xs, h with
  | [a, b, c, d, e, f], h =>
    simp only [hasShs, hasSh] at h
    obtain ⟨⟨s, rfl, hs⟩, ⟨n1, rfl⟩, ⟨n2, rfl⟩, ⟨n3, rfl⟩, ⟨n4, rfl⟩, ⟨n5, rfl⟩, _⟩ := h
    exact ⟨⟨s, n1, n2, n3, n4, n5⟩, rfl, hs⟩
  | [], h => simp [hasShs] at h
  | [_], h => simp [hasShs] at h
  | [_, _], h => simp [hasShs] at h
  | [_, _, _], h => simp [hasShs] at h
  | [_, _, _, _], h => simp [hasShs] at h
  | [_, _, _, _, _], h => simp [hasShs] at h
  | _ :: _ :: _ :: _ :: _ :: _ :: _ :: _, h => simp [hasShs] at h
theorem uni_of_sh {x : LV} (h : hasSh shUni x) : ∃ u : Uni, x = u.lv ∧ True := by
  simp only [hasSh] at h
  obtain ⟨xs, rfl, h⟩ := h
  match xs, h with
  | [a, b, c, d], h =>
    simp only [hasShs, hasSh] at h
    obtain ⟨⟨n1, rfl⟩, ⟨n2, rfl⟩, ⟨n3, rfl⟩, ⟨n4, rfl⟩, _⟩ := h
    exact ⟨⟨n1, n2, n3, n4⟩, rfl, trivial⟩
  | [], h => simp [hasShs] at h
  | [_], h => simp [hasShs] at h
  | [_, _], h => simp [hasShs] at h
  | [_, _, _], h => simp [hasShs] at h
  | _ :: _ :: _ :: _ :: _ :: _, h => simp [hasShs] at h
theorem fam_of_sh {x : LV} (h : hasSh shFam x) : ∃ (ps : List Per) (us : List Uni), x = famLV ps us ∧ FamOK ps us := by
  simp only [hasSh] at h
  obtain ⟨xs, rfl, h⟩ := h
  match xs, h with
  | [a, b], h =>
    simp only [hasShs, hasSh] at h
    obtain ⟨⟨ys, rfl, hl, hy⟩, ⟨zs, rfl, hm, hz⟩, _⟩ := h
    obtain ⟨ps, rfl, hps⟩ := list_of (lv := Per.lv) (Q := fun p => p.name.size ≤ maxLen) ys fun y hy' => per_of_sh (by simp only [hasSh]; exact hy y hy')
    obtain ⟨us, rfl, _⟩ := list_of (lv := Uni.lv) (Q := fun _ => True) zs fun y hy' => uni_of_sh (by simp only [hasSh]; exact hz y hy')
    exact ⟨ps, us, rfl, ⟨by simpa using hl, by simpa using hm, hps⟩⟩
  | [], h => simp [hasShs] at h
  | [_], h => simp [hasShs] at h
  | _ :: _ :: _ :: _, h => simp [hasShs] at h
end Go.Proofs.Ytdhmnojnkgmmnaa

