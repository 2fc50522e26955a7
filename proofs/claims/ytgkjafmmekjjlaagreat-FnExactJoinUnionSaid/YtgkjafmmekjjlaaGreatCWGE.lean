/- Contracts of functions of the program and of its model, told over readings. -/
import Derived.Test.YtgkjafmmekjjlaaGreatCWGD
import Derived.Test.YtgkjafmmekjjlaaGreatCWGC
set_option maxHeartbeats 3200000
set_option maxRecDepth 10000
set_option linter.unusedVariables false
set_option linter.unusedSimpArgs false
set_option linter.unusedSectionVars false
namespace Go.Proofs.YtgkjafmmekjjlaaGreat
open Go.Lg Go.Pm
theorem known_nn {ps : List Per} (hp : parsIn ps) {x : Nat} (h : x < ps.length) : known ps[x] = (match leI 0 ps[x].father with | true => [ps[x].father] | false => []) ++ (match leI 0 ps[x].mother with | true => [ps[x].mother] | false => []) := by
  have := hp x h
  have nn : ∀ v : Int, parIn v x → notNone v = leI 0 v := fun v hv => by
    unfold notNone
    rcases hv with rfl | ⟨h0, h1⟩
    · simp [notB, eqI, leI]
    · have e1 : eqI v (-1) = false := eqI_f.2 (by omega)
      rw [e1, leI_t.2 h0]; simp [notB]
  unfold known
  rw [← nn _ this.1, ← nn _ this.2]
  cases h1 : notNone ps[x].father <;> cases h2 : notNone ps[x].mother <;> simp [List.filter, h1, h2]
theorem l1Parents_f (ps : List Per) (us : List Uni) (hp : parsIn ps) (x : Nat) (hx : x < ps.length) : FSpec env.P 113 [famLV ps us, .int .i64 (x : Int)] (rowOw (known ps[x])) := by
  refine FSpec_of_code env_ok (fn := Tryz.f113) Tryz.func113 rfl Tryz.call113 _ _ ?_
  have hg : (ps.map Per.lv)[x]? = some ps[x].lv := by simp [hx]
  rw [known_nn hp hx]
  ((repeat ((conv => whnf); first | refine brT ?_ | refine brF ?_)); conv => whnf)
  refine ⟨x, _, rfl, hg, rfl, ?_⟩
  ((repeat ((conv => whnf); first | refine brT ?_ | refine brF ?_)); conv => whnf)
  (refine ⟨fun g1 => ?_, fun g1 => ?_⟩ <;> rw [g1])
  · ((repeat ((conv => whnf); first | refine brT ?_ | refine brF ?_)); conv => whnf)
    refine ⟨x, _, rfl, hg, rfl, ?_⟩
    ((repeat ((conv => whnf); first | refine brT ?_ | refine brF ?_)); conv => whnf)
    refine ⟨rfl, rfl, by show 1 ≤ Go.maxLen; unfold Go.maxLen; omega, by show 1 * 8 ≤ _; omega, ?_⟩
    ((repeat ((conv => whnf); first | refine brT ?_ | refine brF ?_)); conv => whnf)
    refine ⟨x, _, rfl, hg, rfl, ?_⟩
    ((repeat ((conv => whnf); first | refine brT ?_ | refine brF ?_)); conv => whnf)
    (refine ⟨fun g2 => ?_, fun g2 => ?_⟩ <;> rw [g2])
    · ((repeat ((conv => whnf); first | refine brT ?_ | refine brF ?_)); conv => whnf)
      refine ⟨x, _, rfl, hg, rfl, ?_⟩
      ((repeat ((conv => whnf); first | refine brT ?_ | refine brF ?_)); conv => whnf)
      refine ⟨rfl, rfl, by show 2 ≤ Go.maxLen; unfold Go.maxLen; omega, by show 2 * 8 ≤ _; omega, ?_⟩
      ((repeat ((conv => whnf); first | refine brT ?_ | refine brF ?_)); conv => whnf)
      exact ⟨rfl, rfl, rfl, rfl, by simp⟩
    · ((repeat ((conv => whnf); first | refine brT ?_ | refine brF ?_)); conv => whnf)
      exact ⟨rfl, rfl, rfl, rfl, by simp⟩
  · ((repeat ((conv => whnf); first | refine brT ?_ | refine brF ?_)); conv => whnf)
    refine ⟨x, _, rfl, hg, rfl, ?_⟩
    ((repeat ((conv => whnf); first | refine brT ?_ | refine brF ?_)); conv => whnf)
    (refine ⟨fun g2 => ?_, fun g2 => ?_⟩ <;> rw [g2])
    · ((repeat ((conv => whnf); first | refine brT ?_ | refine brF ?_)); conv => whnf)
      refine ⟨x, _, rfl, hg, rfl, ?_⟩
      ((repeat ((conv => whnf); first | refine brT ?_ | refine brF ?_)); conv => whnf)
      refine ⟨rfl, rfl, by show 1 ≤ Go.maxLen; unfold Go.maxLen; omega, by show 1 * 8 ≤ _; omega, ?_⟩
      ((repeat ((conv => whnf); first | refine brT ?_ | refine brF ?_)); conv => whnf)
      exact ⟨rfl, rfl, rfl, rfl, by simp⟩
    · ((repeat ((conv => whnf); first | refine brT ?_ | refine brF ?_)); conv => whnf)
      exact ⟨rfl, rfl, rfl, rfl, by simp⟩
def noRow (k : Nat) : List LV := (List.replicate k (-1 : Int)).map intLV
theorem noRow_succ (k : Nat) : noRow k ++ [LV.int .i64 (-1)] = noRow (k + 1) := by
  unfold noRow; rw [List.replicate_succ', List.map_append]; rfl
theorem noRow_len (k : Nat) : (noRow k).length = k := by simp [noRow]
theorem rlxs_take {o : List Int} {d : Int} {qs : List Int} {i : Nat} (h : i < qs.length) : rlxs o d (qs.take (i + 1)) = rlx (rlxs o d (qs.take i)) d qs[i] := by
  unfold rlxs; rw [List.take_succ_eq_append_getElem h, List.foldl_append]; rfl
theorem up_f (ps : List Per) (us : List Uni) (hl : ps.length ≤ 40) (hp : parsIn ps) (hs : shallow (depths ps) = true) (p : Nat) (h : p < ps.length) : FSpec env.P 79 [famLV ps us, .int .i64 (p : Int)] (rowOw (upS ps p)) := by
  refine FSpec_of_code env_ok (fn := Tryz.f79) Tryz.func79 rfl Tryz.call79 _ _ ?_
  have hP : (ps.map Per.lv).length = ps.length := List.length_map ..
  have hp' : ps.length ≤ Go.maxLen := by unfold Go.maxLen; omega
  ((repeat ((conv => whnf); first | refine brT ?_ | refine brF ?_)); conv => whnf)
  intro _
  ((repeat ((conv => whnf); first | refine brT ?_ | refine brF ?_)); conv => whnf)
  rw [hP]
  refine loop_ruleR (α := Nat) [.old 0, .old 1] (fun k => [(9, .undef), (13, .int .i64 (k : Int)), (5, .hs 1 (noRow k).length)]) (fun k => [.box (famLV ps us), .arr 3 1 (noRow k)]) (fun k => ps.length - k) (fun k => k ≤ ps.length) 0 (Nat.zero_le _) ?_ ?_
  · refine ⟨?_, ⟨rfl, rfl, rfl, rfl, trivial⟩, rfl⟩
    ((repeat ((conv => whnf); refine ⟨rfl, rfl, ?_⟩)); trivial)
  intro k hk
  generalize hK : kk _ = KK
  ((repeat ((conv => whnf); first | refine brT ?_ | refine brF ?_)); conv => whnf)
  (refine ⟨fun g1 => ?_, fun g1 => ?_⟩ <;> rw [g1])
  · have hlt : k < ps.length := by rw [ltI_t] at g1; omega
    have e := step_i hlt hp'
    have hn := noRow_succ k
    have hn2 := noRow_len (k + 1)
    ((repeat ((conv => whnf); first | refine brT ?_ | refine brF ?_)); conv => whnf)
    refine ⟨rfl, rfl, ?_, ?_, ?_⟩
    · rw [hn]; unfold Go.maxLen; omega
    · rw [hn]; show (noRow (k + 1)).length * 8 ≤ _; omega
    rw [hn]
    ((repeat ((conv => whnf); first | refine brT ?_ | refine brF ?_)); conv => whnf)
    subst hK
    refine round_endR [.old 0, .old 3] (k + 1) hlt (by omega) ⟨?_, ⟨rfl, rfl, rfl, rfl, trivial⟩, rfl⟩
    ((repeat ((conv => whnf); first | refine ⟨rfl, e, ?_⟩ | refine ⟨rfl, rfl, ?_⟩)); trivial)
  have h4 : k = ps.length := by rw [ltI_f] at g1; omega
  subst h4
  subst hK
  have hset : (noRow ps.length).set p (LV.int .i64 0) = (upTo ps p 0).map intLV := by
    show ((List.replicate ps.length (-1 : Int)).map intLV).set p (intLV 0) = ((List.replicate ps.length (-1 : Int)).set p 0).map intLV
    rw [List.map_set]
  have hgp : getP (.st (noRow ps.length)) [p] = some (intLV (-1)) := by
    simp only [getP]; unfold noRow; rw [List.getElem?_map, List.getElem?_replicate, if_pos h]; rfl
  have hgn : (noRow ps.length)[p]? = some (intLV (-1)) := by
    unfold noRow; rw [List.getElem?_map, List.getElem?_replicate, if_pos h]; rfl
  have hnl := noRow_len ps.length
  have hul : ∀ j, ((upTo ps p j).map intLV).length = ps.length := fun j => by rw [List.length_map, upTo_len]
  rw [hnl]
  ((repeat ((conv => whnf); first | refine brT ?_ | refine brF ?_)); conv => whnf)
  refine ⟨hnl.symm, rfl, p, rfl, by rw [hnl]; exact h, ?_⟩
  ((repeat ((conv => whnf); first | refine brT ?_ | refine brF ?_)); conv => whnf)
  refine ⟨hnl.symm, p, [], intLV (-1), rfl, hgp, rfl, rfl, rfl, (upTo ps p 0).map intLV, by rw [hgn]; exact hset, ?_⟩
  ((repeat ((conv => whnf); first | refine brT ?_ | refine brF ?_)); conv => whnf)
  refine ⟨(hul 0).symm, fun _ => ?_⟩
  ((repeat ((conv => whnf); first | refine brT ?_ | refine brF ?_)); conv => whnf)
  rw [hul 0, wrap64 (by omega) (by omega)]
  refine loop_rule (α := Nat) (fun j => [(6, .int .i64 ((ps.length : Int) - 1 - (j : Int)))]) (fun j => [.box (famLV ps us), .arr 3 1 ((upTo ps p j).map intLV)]) (fun j => ps.length - j) (fun j => j ≤ ps.length) 0 (Nat.zero_le _) ?_ ?_
  · refine ⟨?_, ⟨rfl, rfl, trivial⟩, rfl, rfl⟩
    have e0 : LV.int .i64 ((ps.length : Int) - 1) = LV.int .i64 ((ps.length : Int) - 1 - ((0 : Nat) : Int)) := by simp
    ((repeat ((conv => whnf); first | refine ⟨e0, ?_⟩ | refine ⟨rfl, ?_⟩)); trivial)
  intro j hj
  generalize hK : kk _ = KK
  ((repeat ((conv => whnf); first | refine brT ?_ | refine brF ?_)); conv => whnf)
  (refine ⟨fun g1 => ?_, fun g1 => ?_⟩ <;> rw [g1])
  · have hlt : j < ps.length := by rw [leI_t] at g1; omega
    obtain ⟨x, hx⟩ : ∃ x, x = ps.length - 1 - j := ⟨_, rfl⟩
    have hxl : x < ps.length := by omega
    have ex : (ps.length : Int) - 1 - (j : Int) = (x : Int) := by omega
    have hR : upTo ps p (j + 1) = relax ps (upTo ps p j) x := by rw [upTo, hx]
    have inv := upTo_inv hp h j (by omega)
    rw [show ps.length - j = x + 1 by omega] at inv
    have e := step_i hlt hp'
    have eb : LV.int .i64 (IntKind.i64.wrap ((x : Int) - 1)) = LV.int .i64 ((ps.length : Int) - 1 - ((j + 1 : Nat) : Int)) := by rw [wrap64 (by omega) (by omega)]; congr 1; omega
    rw [ex]
    generalize upTo ps p j = o at inv hR ⊢
    have hol : (o.map intLV).length = ps.length := by rw [List.length_map, inv.len]
    have hox := intL_at (g := o) (i := x) (by rw [inv.len]; exact hxl)
    have hog : getP (.st (o.map intLV)) [x] = some (intLV (o.getD x 0)) := by simp only [getP]; rw [hox]
    ((repeat ((conv => whnf); first | refine brT ?_ | refine brF ?_)); conv => whnf)
    refine ⟨hol.symm, rfl, x, rfl, by rw [hol]; exact hxl, ?_⟩
    ((repeat ((conv => whnf); first | refine brT ?_ | refine brF ?_)); conv => whnf)
    refine ⟨hol.symm, by simp, intLV (o.getD x 0), hog, rfl, ?_⟩
    ((repeat ((conv => whnf); first | refine brT ?_ | refine brF ?_)); conv => whnf)
    (refine ⟨fun g2 => ?_, fun g2 => ?_⟩ <;> rw [g2])
    · have hsame : o = upTo ps p (j + 1) := by rw [hR]; unfold relax; rw [g2]
      ((repeat ((conv => whnf); first | refine brT ?_ | refine brF ?_)); conv => whnf)
      subst hK
      refine round_end (j + 1) hlt (by omega) ⟨?_, ⟨rfl, congrArg (fun o : List Int => Blk.arr 3 1 (o.map intLV)) hsame, trivial⟩, rfl, rfl⟩
      ((repeat ((conv => whnf); first | refine ⟨eb, ?_⟩ | refine ⟨rfl, ?_⟩)); trivial)
    · ((repeat ((conv => whnf); first | refine brT ?_ | refine brF ?_)); conv => whnf)
      refine ⟨_, l1Parents_f ps us hp x hxl, ?_⟩
      ((repeat ((conv => whnf); first | refine brT ?_ | refine brF ?_)); conv => whnf)
      intro _
      ((repeat ((conv => whnf); first | refine brT ?_ | refine brF ?_)); conv => whnf)
      rw [ltI_f] at g2
      have hkn := kn_in hp hxl
      have hd10 : o.getD x 0 ≤ 10 := by
        rcases inv.real x hxl with e1 | ⟨_, hu⟩
        · omega
        · have := hu.small hp hs; omega
      have hR2 : upTo ps p (j + 1) = rlxs o (o.getD x 0 + 1) (known ps[x]) := by rw [hR]; unfold relax; rw [ltI_f.2 g2, List.getElem?_eq_getElem hxl]
      have hst : ∀ i, (rlxs o (o.getD x 0 + 1) ((known ps[x]).take i)).getD x 0 = o.getD x 0 := fun i => by
        have g := (rlxs_get (n := ps.length) (d := o.getD x 0 + 1) (by omega) ((known ps[x]).take i) o inv.len (fun v hv => ⟨(hkn v (List.mem_of_mem_take hv)).1, by have := (hkn v (List.mem_of_mem_take hv)).2; omega⟩) x).1
        rcases g with g | ⟨g, _⟩
        · exact g
        · have := (hkn _ (List.mem_of_mem_take g)).2; omega
      generalize hqs : known ps[x] = qs at hkn hR2 hst
      have hq2 : qs.length ≤ 2 := by rw [← hqs]; exact known_two _
      have hQ : (qs.map intLV).length = qs.length := List.length_map ..
      rw [hQ]
      refine loop_rule (α := Nat) (fun i => [(38, .int .i64 (i : Int))]) (fun i => [.box (famLV ps us), .arr 3 1 ((rlxs o (o.getD x 0 + 1) (qs.take i)).map intLV)]) (fun i => qs.length - i) (fun i => i ≤ qs.length) 0 (Nat.zero_le _) ?_ ?_
      · refine ⟨?_, ⟨rfl, rfl, trivial⟩, rfl, rfl⟩
        ((repeat ((conv => whnf); refine ⟨rfl, ?_⟩)); trivial)
      intro i hi
      have hsti := hst i
      have hlen : (rlxs o (o.getD x 0 + 1) (qs.take i)).length = ps.length := by rw [rlxs_len, inv.len]
      have hnx : ∀ hi : i < qs.length, rlxs o (o.getD x 0 + 1) (qs.take (i + 1)) = rlx (rlxs o (o.getD x 0 + 1) (qs.take i)) (o.getD x 0 + 1) qs[i] := fun hi => rlxs_take hi
      have hal : i = qs.length → rlxs o (o.getD x 0 + 1) (qs.take i) = rlxs o (o.getD x 0 + 1) qs := fun hi => by rw [List.take_of_length_le (by omega)]
      generalize rlxs o (o.getD x 0 + 1) (qs.take i) = r at hsti hlen hnx hal ⊢
      have hrl : (r.map intLV).length = ps.length := by rw [List.length_map, hlen]
      have hlo : ps.length = (r.map intLV).length := hrl.symm
      have hrx := intL_at (g := r) (i := x) (by rw [hlen]; exact hxl)
      rw [hsti] at hrx
      have hrg : getP (.st (r.map intLV)) [x] = some (intLV (o.getD x 0)) := by simp only [getP]; rw [hrx]
      generalize hK2 : kk _ = KK2
      ((repeat ((conv => whnf); first | refine brT ?_ | refine brF ?_)); conv => whnf)
      (refine ⟨fun g3 => ?_, fun g3 => ?_⟩ <;> rw [g3])
      · have hli : i < qs.length := by rw [ltI_t] at g3; omega
        have ei := step_i hli (by unfold Go.maxLen; omega)
        have hn := hnx hli
        obtain ⟨q0, q1⟩ := hkn qs[i] (List.getElem_mem hli)
        obtain ⟨q, hq⟩ : ∃ q : Nat, qs[i] = (q : Int) := ⟨qs[i].toNat, by omega⟩
        rw [hq] at hn q1
        rw [Int.toNat_natCast] at q1
        have hrq := intL_at (g := r) (i := q) (by rw [hlen]; omega)
        have hrh : getP (.st (r.map intLV)) [q] = some (intLV (r.getD q 0)) := by simp only [getP]; rw [hrq]
        ((repeat ((conv => whnf); first | refine brT ?_ | refine brF ?_)); conv => whnf)
        refine ⟨i, intLV (q : Int), rfl, by rw [List.getElem?_map, List.getElem?_eq_getElem hli, hq]; rfl, rfl, ?_⟩
        ((repeat ((conv => whnf); first | refine brT ?_ | refine brF ?_)); conv => whnf)
        refine ⟨true, by kernel_rfl, ?_⟩
        ((repeat ((conv => whnf); first | refine brT ?_ | refine brF ?_)); conv => whnf)
        refine ⟨hlo, rfl, q, rfl, by rw [hrl]; omega, ?_⟩
        ((repeat ((conv => whnf); first | refine brT ?_ | refine brF ?_)); conv => whnf)
        refine ⟨hlo, by simp, intLV (r.getD q 0), hrh, rfl, ?_⟩
        ((repeat ((conv => whnf); first | refine brT ?_ | refine brF ?_)); conv => whnf)
        have wr1 : IntKind.i64.wrap (o.getD x 0 + 1) = o.getD x 0 + 1 := wrap64 (by omega) (by omega)
        have hset : (ltI (r.getD q 0) 0 || ltI (o.getD x 0 + 1) (r.getD q 0)) = true → (rlx r (o.getD x 0 + 1) (q : Int)).map intLV = (r.map intLV).set q (intLV (o.getD x 0 + 1)) := fun hc => by
          unfold rlx; rw [Int.toNat_natCast, hc, List.map_set]
        have hkeep : (ltI (r.getD q 0) 0 || ltI (o.getD x 0 + 1) (r.getD q 0)) = false → rlx r (o.getD x 0 + 1) (q : Int) = r := fun hc => by
          unfold rlx; rw [Int.toNat_natCast, hc]
        (refine ⟨fun g4 => ?_, fun g4 => ?_⟩ <;> rw [g4])
        · ((repeat ((conv => whnf); first | refine brT ?_ | refine brF ?_)); conv => whnf)
          refine ⟨hlo, rfl, x, rfl, by rw [hrl]; exact hxl, ?_⟩
          ((repeat ((conv => whnf); first | refine brT ?_ | refine brF ?_)); conv => whnf)
          refine ⟨hlo, by simp, intLV (o.getD x 0), hrg, rfl, ?_⟩
          ((repeat ((conv => whnf); first | refine brT ?_ | refine brF ?_)); conv => whnf)
          refine ⟨hlo, rfl, q, rfl, by rw [hrl]; omega, ?_⟩
          ((repeat ((conv => whnf); first | refine brT ?_ | refine brF ?_)); conv => whnf)
          refine ⟨hlo, q, [], intLV (r.getD q 0), rfl, hrh, rfl, rfl, rfl, (rlxs o (o.getD x 0 + 1) (qs.take (i + 1))).map intLV, by rw [hrq]; show (r.map intLV).set q (.int .i64 (IntKind.i64.wrap (o.getD x 0 + 1))) = _; rw [wr1, hn, hset (by rw [g4]; rfl)]; rfl, ?_⟩
          ((repeat ((conv => whnf); first | refine brT ?_ | refine brF ?_)); conv => whnf)
          subst hK2
          refine round_end (i + 1) hli (by omega) ⟨?_, ⟨rfl, rfl, trivial⟩, rfl, rfl⟩
          ((repeat ((conv => whnf); first | refine ⟨ei, ?_⟩ | refine ⟨rfl, ?_⟩)); trivial)
        · ((repeat ((conv => whnf); first | refine brT ?_ | refine brF ?_)); conv => whnf)
          refine ⟨hlo, rfl, q, rfl, by rw [hrl]; omega, ?_⟩
          ((repeat ((conv => whnf); first | refine brT ?_ | refine brF ?_)); conv => whnf)
          refine ⟨hlo, by simp, intLV (r.getD q 0), hrh, rfl, ?_⟩
          ((repeat ((conv => whnf); first | refine brT ?_ | refine brF ?_)); conv => whnf)
          refine ⟨hlo, rfl, x, rfl, by rw [hrl]; exact hxl, ?_⟩
          ((repeat ((conv => whnf); first | refine brT ?_ | refine brF ?_)); conv => whnf)
          refine ⟨hlo, by simp, intLV (o.getD x 0), hrg, rfl, ?_⟩
          ((repeat ((conv => whnf); first | refine brT ?_ | refine brF ?_)); conv => whnf)
          rw [wr1]
          (refine ⟨fun g5 => ?_, fun g5 => ?_⟩ <;> rw [g5])
          · ((repeat ((conv => whnf); first | refine brT ?_ | refine brF ?_)); conv => whnf)
            refine ⟨hlo, rfl, x, rfl, by rw [hrl]; exact hxl, ?_⟩
            ((repeat ((conv => whnf); first | refine brT ?_ | refine brF ?_)); conv => whnf)
            refine ⟨hlo, by simp, intLV (o.getD x 0), hrg, rfl, ?_⟩
            ((repeat ((conv => whnf); first | refine brT ?_ | refine brF ?_)); conv => whnf)
            refine ⟨hlo, rfl, q, rfl, by rw [hrl]; omega, ?_⟩
            ((repeat ((conv => whnf); first | refine brT ?_ | refine brF ?_)); conv => whnf)
            refine ⟨hlo, q, [], intLV (r.getD q 0), rfl, hrh, rfl, rfl, rfl, (rlxs o (o.getD x 0 + 1) (qs.take (i + 1))).map intLV, by rw [hrq]; show (r.map intLV).set q (.int .i64 (IntKind.i64.wrap (o.getD x 0 + 1))) = _; rw [wr1, hn, hset (by rw [g4, g5]; rfl)]; rfl, ?_⟩
            ((repeat ((conv => whnf); first | refine brT ?_ | refine brF ?_)); conv => whnf)
            subst hK2
            refine round_end (i + 1) hli (by omega) ⟨?_, ⟨rfl, rfl, trivial⟩, rfl, rfl⟩
            ((repeat ((conv => whnf); first | refine ⟨ei, ?_⟩ | refine ⟨rfl, ?_⟩)); trivial)
          · have hk0 := hkeep (by rw [g4, g5]; rfl)
            rw [← hn] at hk0
            ((repeat ((conv => whnf); first | refine brT ?_ | refine brF ?_)); conv => whnf)
            subst hK2
            refine round_end (i + 1) hli (by omega) ⟨?_, ⟨rfl, congrArg (fun o : List Int => Blk.arr 3 1 (o.map intLV)) hk0.symm, trivial⟩, rfl, rfl⟩
            ((repeat ((conv => whnf); first | refine ⟨ei, ?_⟩ | refine ⟨rfl, ?_⟩)); trivial)
      · have h5 : i = qs.length := by rw [ltI_f] at g3; omega
        have ha := hal h5
        rw [← hR2] at ha
        subst hK2
        ((repeat ((conv => whnf); first | refine brT ?_ | refine brF ?_)); conv => whnf)
        subst hK
        refine round_end (j + 1) hlt (by omega) ⟨?_, ⟨rfl, congrArg (fun o : List Int => Blk.arr 3 1 (o.map intLV)) ha, trivial⟩, rfl, rfl⟩
        ((repeat ((conv => whnf); first | refine ⟨eb, ?_⟩ | refine ⟨rfl, ?_⟩)); trivial)
  · have h5 : j = ps.length := by rw [leI_f] at g1; omega
    subst h5
    subst hK
    ((repeat ((conv => whnf); first | refine brT ?_ | refine brF ?_)); conv => whnf)
    exact ⟨(hul _).symm, rfl, rfl, rfl, by simp⟩
end Go.Proofs.YtgkjafmmekjjlaaGreat
namespace Go.Proofs.YtgkjafmmekjjlaaGreat
open Go.Lg Go.Pm
theorem nats_f {f : FuncId} {args : List LV} {xs : List Nat} (h : HSpec env.P f args [] (.hs 0 (xs.map natLV).length) [.arr 3 1 (xs.map natLV)]) : FSpec env.P f args (.own 3 1 (xs.map natLV)) :=
  FSpec_of_HSpec h (by simp [exW])
end Go.Proofs.YtgkjafmmekjjlaaGreat
namespace Go.Proofs.YtgkjafmmekjjlaaGreat
open Go.Lg Go.Pm
theorem fam_sh {ps : List Per} {us : List Uni} (h : famOk ps us = true) : shallow (depths ps) = true := by
  unfold famOk at h; simp only [Bool.and_eq_true] at h; exact h.2.2.2.2
theorem fam_pi {ps : List Per} {us : List Uni} (h : famOk ps us = true) : parsIn ps := by
  unfold famOk at h; simp only [Bool.and_eq_true] at h; exact parsIn_of h.2.2.1
theorem fam_40 {ps : List Per} {us : List Uni} (h : famOk ps us = true) : ps.length ≤ 40 := by
  unfold famOk at h; simp only [Bool.and_eq_true, decide_eq_true_eq] at h; exact h.1
def upL (ps : List Per) : LV := .sl ((clT ps).map rowSl)
theorem clT_row {ps : List Per} (hp : parsIn ps) (hs : shallow (depths ps) = true) {p : Nat} (h : p < ps.length) : ((clT ps).map rowSl)[p]? = some (rowSl ((upS ps p).map tooF)) := by
  rw [List.getElem?_map, clT_get hp hs h]; rfl
theorem tooRow_at {ps : List Per} {p q : Nat} (h : q < ps.length) : (((upS ps p).map tooF).map intLV)[q]? = some (intLV (tooF (upd ps p q))) := by
  have hl : q < (upS ps p).length := by rw [upS_len]; exact h
  have e : upd ps p q = (upS ps p)[q] := by unfold upd; rw [List.getD_eq_getElem?_getD, List.getElem?_eq_getElem hl]; rfl
  rw [List.getElem?_map, List.getElem?_map, List.getElem?_eq_getElem hl, e]; rfl
theorem upRow_get {ps : List Per} {p q : Nat} (h : q < ps.length) : ((upS ps p).map intLV)[q]? = some (intLV (upd ps p q)) := by
  have hl : q < (upS ps p).length := by rw [upS_len]; exact h
  have e : upd ps p q = (upS ps p)[q] := by unfold upd; rw [List.getD_eq_getElem?_getD, List.getElem?_eq_getElem hl]; rfl
  rw [List.getElem?_map, List.getElem?_eq_getElem hl, e]; rfl
theorem tooF_lead {m : Int} (h : m ≤ 10) : notB (eqI (tooF m) 11) = leI 0 m := by
  unfold tooF
  cases e : ltI m 0 with
  | true => rw [ltI_t] at e; rw [show leI 0 m = false by rw [leI_f]; omega]; simp [notB, eqI]
  | false => rw [ltI_f] at e; rw [leI_t.2 e, show eqI m 11 = false by rw [eqI_f]; omega]; simp [notB]
theorem lead_spec {ps : List Per} (hp : parsIn ps) (hs : shallow (depths ps) = true) {p q : Nat} (h : p < ps.length) (hq : q < ps.length) :
    FSpec env.P 154 [upL ps, .int .i64 (p : Int), .int .i64 (q : Int)] (.bool (leI 0 (upd ps p q))) := by
  refine FSpec_of_code env_ok (fn := Tryz.f154) Tryz.func154 rfl Tryz.call154 _ _ ?_
  have hb := upd_small hp hs h hq
  unfold upL
  rw [← tooF_lead hb.2]
  ((repeat ((conv => whnf); first | refine brT ?_ | refine brF ?_)); conv => whnf)
  refine ⟨p, _, rfl, clT_row hp hs h, rfl, ?_⟩
  ((repeat ((conv => whnf); first | refine brT ?_ | refine brF ?_)); conv => whnf)
  refine ⟨q, _, rfl, tooRow_at hq, rfl, ?_⟩
  ((repeat ((conv => whnf); first | refine brT ?_ | refine brF ?_)); conv => whnf)
  exact fin rfl
theorem common1_spec {ps : List Per} (hp : parsIn ps) (hs : shallow (depths ps) = true) {a b q : Nat} (ha : a < ps.length) (hb : b < ps.length) (hq : q < ps.length) :
    FSpec env.P 183 [.int .i64 (q : Int), .ref (upL ps), .ref (.int .i64 (a : Int)), .ref (.int .i64 (b : Int))] (.bool (leI 0 (upd ps a q) && leI 0 (upd ps b q))) := by
  refine FSpec_of_code env_ok (fn := Tryz.f183) Tryz.func183 rfl Tryz.call183 _ _ ?_
  have h1 := lead_spec hp hs ha hq
  have h2 := lead_spec hp hs hb hq
  unfold upL at h1 h2 ⊢
  ((repeat ((conv => whnf); first | refine brT ?_ | refine brF ?_)); conv => whnf)
  refine ⟨_, h1, ?_⟩
  ((repeat ((conv => whnf); first | refine brT ?_ | refine brF ?_)); conv => whnf)
  (refine ⟨fun g => ?_, fun g => ?_⟩ <;> rw [g])
  · ((repeat ((conv => whnf); first | refine brT ?_ | refine brF ?_)); conv => whnf)
    refine ⟨_, h2, ?_⟩
    ((repeat ((conv => whnf); first | refine brT ?_ | refine brF ?_)); conv => whnf)
    exact fin rfl
  · ((repeat ((conv => whnf); first | refine brT ?_ | refine brF ?_)); conv => whnf)
    exact fin rfl
def comQ (ps : List Per) (a b q : Nat) : Bool := leI 0 (upd ps a q) && leI 0 (upd ps b q)
def comL (ps : List Per) (us : List Uni) (a b : Int) : List Nat := match hasP ps us a && hasP ps us b with | true => wantL (comQ ps a.toNat b.toNat) ps.length | false => []
theorem rowW_eq (q : Nat → Bool) (n : Nat) : rowW q n = (wantL q n).map natLV := rfl
def belI (x n : Int) : Bool := leI 0 x && ltI x n
theorem isBelow_spec (x n : Int) : FSpec env.P 90 [.int .i64 x, .int .i64 n] (.bool (belI x n)) := by
  refine FSpec_of_code env_ok (fn := Tryz.f90) Tryz.func90 rfl Tryz.call90 _ _ ?_
  unfold belI
  ((repeat ((conv => whnf); first | refine brT ?_ | refine brF ?_)); conv => whnf)
  (refine ⟨fun g => ?_, fun g => ?_⟩ <;> rw [g])
  · ((repeat ((conv => whnf); first | refine brT ?_ | refine brF ?_)); conv => whnf); exact fin rfl
  · ((repeat ((conv => whnf); first | refine brT ?_ | refine brF ?_)); conv => whnf); exact fin rfl
theorem hasP_bel (ps : List Per) (us : List Uni) (p : Int) : hasP ps us p = (belI p ps.length && famOk ps us) := by unfold hasP belI; rw [Bool.and_assoc]
theorem hasPeople_spec (ps : List Per) (us : List Uni) (a b : Int) : FSpec env.P 49 [famLV ps us, .sl [.int .i64 a, .int .i64 b]] (.bool (hasP ps us a && hasP ps us b)) := by
  refine FSpec_of_code env_ok (fn := Tryz.f49) Tryz.func49 rfl Tryz.call49 _ _ ?_
  have hP : (ps.map Per.lv).length = ps.length := List.length_map ..
  rw [hasP_bel, hasP_bel]
  ((repeat ((conv => whnf); first | refine brT ?_ | refine brF ?_)); conv => whnf)
  intro _
  ((repeat ((conv => whnf); first | refine brT ?_ | refine brF ?_)); conv => whnf)
  refine loop_rule (α := Nat) (fun k => [(9, .int .i64 (k : Int))]) (fun k => [.box (famLV ps us)]) (fun k => 2 - k) (fun k => k ≤ 2 ∧ (1 ≤ k → belI a ps.length = true) ∧ (2 ≤ k → belI b ps.length = true)) 0 ⟨Nat.zero_le _, fun h => by omega, fun h => by omega⟩ ?_ ?_
  · refine ⟨?_, ⟨rfl, trivial⟩, rfl, rfl⟩
    ((repeat ((conv => whnf); refine ⟨rfl, ?_⟩)); trivial)
  rintro k ⟨hk, h1, h2⟩
  ((repeat ((conv => whnf); first | refine brT ?_ | refine brF ?_)); conv => whnf)
  (refine ⟨fun g1 => ?_, fun g1 => ?_⟩ <;> rw [g1])
  · have hlt : k < 2 := by rw [ltI_t] at g1; have : (k : Int) < 2 := g1; omega
    have e := step_i hlt (by unfold Go.maxLen; omega)
    ((repeat ((conv => whnf); first | refine brT ?_ | refine brF ?_)); conv => whnf)
    have hget : ([LV.int .i64 a, LV.int .i64 b] : List LV)[k]? = some (.int .i64 (if k = 0 then a else b)) := by
      rcases Nat.lt_or_ge k 1 with h | h
      · obtain rfl : k = 0 := by omega
        rfl
      · obtain rfl : k = 1 := by omega
        rfl
    refine ⟨k, .int .i64 (if k = 0 then a else b), rfl, hget, rfl, ?_⟩
    ((repeat ((conv => whnf); first | refine brT ?_ | refine brF ?_)); conv => whnf)
    intro _
    ((repeat ((conv => whnf); first | refine brT ?_ | refine brF ?_)); conv => whnf)
    rw [hP]
    refine ⟨_, isBelow_spec _ _, ?_⟩
    ((repeat ((conv => whnf); first | refine brT ?_ | refine brF ?_)); conv => whnf)
    cases g2 : belI (if k = 0 then a else b) ps.length
    · rw [show notB false = true by simp [notB]]
      ((repeat ((conv => whnf); first | refine brT ?_ | refine brF ?_)); conv => whnf)
      refine fin ?_
      rcases Nat.lt_or_ge k 1 with h | h
      · obtain rfl : k = 0 := by omega
        rw [if_pos rfl] at g2; simp [g2]
      · obtain rfl : k = 1 := by omega
        rw [if_neg (by omega)] at g2; simp [g2]
    · rw [show notB true = false by simp [notB]]
      ((repeat ((conv => whnf); first | refine brT ?_ | refine brF ?_)); conv => whnf)
      refine round_end (k + 1) ⟨hlt, fun _ => ?_, fun _ => ?_⟩ (by omega) ⟨?_, ⟨rfl, trivial⟩, rfl, rfl⟩
      · rcases Nat.lt_or_ge k 1 with h | h
        · obtain rfl : k = 0 := by omega
          rwa [if_pos rfl] at g2
        · exact h1 h
      · obtain rfl : k = 1 := by omega
        rwa [if_neg (by omega)] at g2
      ((repeat ((conv => whnf); first | refine ⟨e, ?_⟩ | refine ⟨rfl, ?_⟩)); trivial)
  · have h4 : k = 2 := by rw [ltI_f] at g1; have : (2 : Int) ≤ k := g1; omega
    subst h4
    ((repeat ((conv => whnf); first | refine brT ?_ | refine brF ?_)); conv => whnf)
    refine ⟨_, isFamily_impl ps us, ?_⟩
    ((repeat ((conv => whnf); first | refine brT ?_ | refine brF ?_)); conv => whnf)
    refine fin ?_
    rw [h1 (by omega), h2 (by omega)]; simp
theorem people3_h (ps : List Per) (us : List Uni) (F : Nat) (x y z : LV) (q : Nat → Bool) (hl : ps.length ≤ 40) (hF : ∀ i, i < ps.length → FSpec env.P F [.int .i64 (i : Int), .ref x, .ref y, .ref z] (.bool (q i))) :
    HSpec env.P 97 [famLV ps us, .clos F [.ref x, .ref y, .ref z]] [] (.hs 0 (rowW q ps.length).length) [.arr 3 1 (rowW q ps.length)] := by
  refine HSpec_of_code (E := env.x [] 0) env_ok.x (fn := Tryz.f97) Tryz.func97 rfl Tryz.call97 _ _ _ _ ?_
  have hP : (ps.map Per.lv).length = ps.length := List.length_map ..
  have hp' : ps.length ≤ Go.maxLen := by unfold Go.maxLen; omega
  ((repeat ((conv => whnf); first | refine brT ?_ | refine brF ?_)); conv => whnf)
  intro _
  rw [hP]
  ((repeat ((conv => whnf); first | refine brT ?_ | refine brF ?_)); conv => whnf)
  refine loop_ruleR (α := Nat) [.old 0, .nil 3 1] (fun k => [(10, .int .i64 (k : Int)), (5, .hs 1 (rowW q k).length)]) (fun k => [.box (famLV ps us), .arr 3 1 (rowW q k)]) (fun k => ps.length - k) (fun k => k ≤ ps.length) 0 (Nat.zero_le _) ?_ ?_
  · refine ⟨?_, ⟨rfl, rfl, rfl, rfl, trivial⟩, rfl⟩
    ((repeat ((conv => whnf); refine ⟨rfl, rfl, ?_⟩)); trivial)
  intro k hk
  generalize hK : kk _ = KK
  ((repeat ((conv => whnf); first | refine brT ?_ | refine brF ?_)); conv => whnf)
  (refine ⟨fun g1 => ?_, fun g1 => ?_⟩ <;> rw [g1])
  · have hlt : k < ps.length := by rw [ltI_t] at g1; omega
    have e := step_i hlt hp'
    have hw := wantL_succ q k
    have hwl := wantL_len q (k + 1)
    ((repeat ((conv => whnf); first | refine brT ?_ | refine brF ?_)); conv => whnf)
    refine ⟨_, hF k hlt, ?_⟩
    ((repeat ((conv => whnf); first | refine brT ?_ | refine brF ?_)); conv => whnf)
    (refine ⟨fun g2 => ?_, fun g2 => ?_⟩ <;> rw [g2])
    · rw [g2] at hw
      have e2 : rowW q k ++ [LV.int .i64 (k : Int)] = rowW q (k + 1) := by unfold rowW; rw [hw, List.map_append]; rfl
      have hl1 : (rowW q (k + 1)).length ≤ k + 1 := by unfold rowW; rw [List.length_map]; exact hwl
      ((repeat ((conv => whnf); first | refine brT ?_ | refine brF ?_)); conv => whnf)
      refine ⟨rfl, rfl, ?_, ?_, ?_⟩
      · rw [e2]; unfold Go.maxLen; omega
      · rw [e2]; show (rowW q (k + 1)).length * 8 ≤ _; omega
      rw [e2]
      ((repeat ((conv => whnf); first | refine brT ?_ | refine brF ?_)); conv => whnf)
      subst hK
      refine round_endR [.old 0, .old 3] (k + 1) hlt (by omega) ⟨?_, ⟨rfl, rfl, rfl, rfl, trivial⟩, rfl⟩
      ((repeat ((conv => whnf); first | refine ⟨rfl, e, ?_⟩ | refine ⟨rfl, rfl, ?_⟩)); trivial)
    · rw [g2, List.append_nil] at hw
      have e2 : rowW q k = rowW q (k + 1) := by unfold rowW; rw [hw]
      have e3 : LV.hs 1 (rowW q k).length = LV.hs 1 (rowW q (k + 1)).length := by rw [e2]
      ((repeat ((conv => whnf); first | refine brT ?_ | refine brF ?_)); conv => whnf)
      subst hK
      refine round_endR [.old 0, .old 1] (k + 1) hlt (by omega) ⟨?_, ⟨rfl, rfl, rfl, congrArg (Blk.arr 3 1) e2, trivial⟩, rfl⟩
      repeat ((conv => whnf); first | refine ⟨rfl, e, ?_⟩ | refine ⟨rfl, e3, ?_⟩ | refine ⟨rfl, rfl, ?_⟩)
      trivial
  have h4 : k = ps.length := by rw [ltI_f] at g1; omega
  subst h4
  subst hK
  ((repeat ((conv => whnf); first | refine brT ?_ | refine brF ?_)); conv => whnf)
  exact ⟨[.hs 0 (rowW q ps.length).length], rfl, rfl, .inr ⟨[.old 1], ⟨rfl, rfl, trivial⟩, ⟨rfl, rfl, trivial⟩, rfl⟩⟩
theorem common_h (ps : List Per) (us : List Uni) (a b : Nat) (hf : famOk ps us = true) (ha : a < ps.length) (hb : b < ps.length) :
    HSpec env.P 173 [famLV ps us, upL ps, .int .i64 (a : Int), .int .i64 (b : Int)] [] (.hs 0 (rowW (comQ ps a b) ps.length).length) [.arr 3 1 (rowW (comQ ps a b) ps.length)] := by
  refine HSpec_of_code (E := env.x [97] 0) env_ok.x (fn := Tryz.f173) Tryz.func173 rfl Tryz.call173 _ _ _ _ ?_
  have hw := people3_h ps us 183 (upL ps) (.int .i64 (a : Int)) (.int .i64 (b : Int)) (comQ ps a b) (fam_40 hf) (fun i hi => common1_spec (fam_pi hf) (fam_sh hf) ha hb hi)
  unfold upL at hw ⊢
  ((repeat ((conv => whnf); first | refine brT ?_ | refine brF ?_)); conv => whnf)
  refine ⟨[], _, _, _, _, hw, rfl, rfl, rfl, ⟨rfl, flats_rowW _ _, trivial⟩, ?_⟩
  ((repeat ((conv => whnf); first | refine brT ?_ | refine brF ?_)); conv => whnf)
  exact ⟨[.hs 0 (rowW (comQ ps a b) ps.length).length], rfl, rfl, .inr ⟨[.old 4], ⟨rfl, rfl, trivial⟩, ⟨rfl, rfl, trivial⟩, rfl⟩⟩
end Go.Proofs.YtgkjafmmekjjlaaGreat
namespace Go.Proofs.YtgkjafmmekjjlaaGreat
open Go.Lg Go.Pm
theorem upS_mlen (ps : List Per) (p : Nat) : ((upS ps p).map intLV).length = ps.length := by rw [List.length_map, upS_len]
theorem rowW_t {q : Nat → Bool} {k : Nat} (h : q k = true) : rowW q k ++ [LV.int .i64 (k : Int)] = rowW q (k + 1) := by
  unfold rowW; rw [wantL_succ, h, List.map_append]; rfl
theorem rowW_f {q : Nat → Bool} {k : Nat} (h : q k = false) : rowW q k = rowW q (k + 1) := by
  unfold rowW; rw [wantL_succ, h, List.append_nil]
theorem rowW_len (q : Nat → Bool) (k : Nat) : (rowW q k).length ≤ k := by unfold rowW; rw [List.length_map]; exact wantL_len q k
theorem l8Common_h (ps : List Per) (us : List Uni) (hf : famOk ps us = true) (a b : Nat) (ha : a < ps.length) (hb : b < ps.length) : HSpec env.P 149 [famLV ps us, .int .i64 (a : Int), .int .i64 (b : Int)] [] (.hs 0 (rowW (comQ ps a b) ps.length).length) [.arr 3 1 (rowW (comQ ps a b) ps.length)] := by
  refine HSpec_of_code (E := env.x [] 0) env_ok.x (fn := Tryz.f149) Tryz.func149 rfl Tryz.call149 _ _ _ _ ?_
  have hl := fam_40 hf
  have hpi := fam_pi hf
  have hsh := fam_sh hf
  have hp' : ps.length ≤ Go.maxLen := by unfold Go.maxLen; omega
  ((repeat ((conv => whnf); first | refine brT ?_ | refine brF ?_)); conv => whnf)
  refine ⟨_, up_f ps us hl hpi hsh a ha, ?_⟩
  ((repeat ((conv => whnf); first | refine brT ?_ | refine brF ?_)); conv => whnf)
  refine ⟨_, up_f ps us hl hpi hsh b hb, ?_⟩
  ((repeat ((conv => whnf); first | refine brT ?_ | refine brF ?_)); conv => whnf)
  intro _
  ((repeat ((conv => whnf); first | refine brT ?_ | refine brF ?_)); conv => whnf)
  rw [upS_mlen]
  generalize hq : comQ ps a b = q
  have hq' : ∀ i, (leI 0 (upd ps a i) && leI 0 (upd ps b i)) = q i := fun i => by rw [← hq]; rfl
  refine loop_ruleR (α := Nat) [.old 0, .old 1] (fun k => [(17, .undef), (20, .int .i64 (k : Int)), (9, .hs 1 (rowW q k).length)]) (fun k => [.box (famLV ps us), .arr 3 1 (rowW q k)]) (fun k => ps.length - k) (fun k => k ≤ ps.length) 0 (Nat.zero_le _) ?_ ?_
  · refine ⟨?_, ⟨rfl, rfl, rfl, rfl, trivial⟩, rfl⟩
    ((repeat ((conv => whnf); refine ⟨rfl, rfl, ?_⟩)); trivial)
  intro k hk
  generalize hK : kk _ = KK
  ((repeat ((conv => whnf); first | refine brT ?_ | refine brF ?_)); conv => whnf)
  (refine ⟨fun g1 => ?_, fun g1 => ?_⟩ <;> rw [g1])
  · have hlt : k < ps.length := by rw [ltI_t] at g1; omega
    have e := step_i hlt hp'
    have hqk := hq' k
    ((repeat ((conv => whnf); first | refine brT ?_ | refine brF ?_)); conv => whnf)
    refine ⟨k, intLV (upd ps a k), rfl, upRow_get hlt, rfl, ?_⟩
    ((repeat ((conv => whnf); first | refine brT ?_ | refine brF ?_)); conv => whnf)
    have no : q k = false → _ := fun g2 : q k = false => rowW_f g2
    (refine ⟨fun g2 => ?_, fun g2 => ?_⟩ <;> rw [g2])
    · ((repeat ((conv => whnf); first | refine brT ?_ | refine brF ?_)); conv => whnf)
      refine ⟨k, intLV (upd ps b k), rfl, upRow_get hlt, rfl, ?_⟩
      ((repeat ((conv => whnf); first | refine brT ?_ | refine brF ?_)); conv => whnf)
      (refine ⟨fun g3 => ?_, fun g3 => ?_⟩ <;> rw [g3])
      · have e2 := rowW_t (q := q) (k := k) (by rw [← hqk, g2, g3]; rfl)
        have hl1 := rowW_len q (k + 1)
        ((repeat ((conv => whnf); first | refine brT ?_ | refine brF ?_)); conv => whnf)
        refine ⟨rfl, rfl, ?_, ?_, ?_⟩
        · rw [e2]; unfold Go.maxLen; omega
        · rw [e2]; show (rowW q (k + 1)).length * 8 ≤ _; omega
        rw [e2]
        ((repeat ((conv => whnf); first | refine brT ?_ | refine brF ?_)); conv => whnf)
        subst hK
        refine round_endR [.old 0, .old 3] (k + 1) hlt (by omega) ⟨?_, ⟨rfl, rfl, rfl, rfl, trivial⟩, rfl⟩
        ((repeat ((conv => whnf); first | refine ⟨rfl, e, ?_⟩ | refine ⟨rfl, rfl, ?_⟩)); trivial)
      · have e2 := no (by rw [← hqk, g2, g3]; rfl)
        have e3 : LV.hs 1 (rowW q k).length = LV.hs 1 (rowW q (k + 1)).length := by rw [e2]
        ((repeat ((conv => whnf); first | refine brT ?_ | refine brF ?_)); conv => whnf)
        subst hK
        refine round_endR [.old 0, .old 1] (k + 1) hlt (by omega) ⟨?_, ⟨rfl, rfl, rfl, congrArg (Blk.arr 3 1) e2, trivial⟩, rfl⟩
        repeat ((conv => whnf); first | refine ⟨rfl, e, ?_⟩ | refine ⟨rfl, e3, ?_⟩ | refine ⟨rfl, rfl, ?_⟩)
        trivial
    · have e2 := no (by rw [← hqk, g2]; rfl)
      have e3 : LV.hs 1 (rowW q k).length = LV.hs 1 (rowW q (k + 1)).length := by rw [e2]
      ((repeat ((conv => whnf); first | refine brT ?_ | refine brF ?_)); conv => whnf)
      subst hK
      refine round_endR [.old 0, .old 1] (k + 1) hlt (by omega) ⟨?_, ⟨rfl, rfl, rfl, congrArg (Blk.arr 3 1) e2, trivial⟩, rfl⟩
      repeat ((conv => whnf); first | refine ⟨rfl, e, ?_⟩ | refine ⟨rfl, e3, ?_⟩ | refine ⟨rfl, rfl, ?_⟩)
      trivial
  have h4 : k = ps.length := by rw [ltI_f] at g1; omega
  subst h4
  subst hK
  ((repeat ((conv => whnf); first | refine brT ?_ | refine brF ?_)); conv => whnf)
  exact ⟨[.hs 0 (rowW q ps.length).length], rfl, rfl, .inr ⟨[.old 1], ⟨rfl, rfl, trivial⟩, ⟨rfl, rfl, trivial⟩, rfl⟩⟩
theorem commons_spec (ps : List Per) (us : List Uni) (a b : Int) : HSpec env.P 115 [famLV ps us, .int .i64 a, .int .i64 b] [] (.hs 0 ((comL ps us a b).map natLV).length) [.arr 3 1 ((comL ps us a b).map natLV)] := by
  refine HSpec_of_code (E := env.x [149] 0) env_ok.x (fn := Tryz.f115) Tryz.func115 rfl Tryz.call115 _ _ _ _ ?_
  unfold comL
  ((repeat ((conv => whnf); first | refine brT ?_ | refine brF ?_)); conv => whnf)
  refine ⟨_, l1Has_spec ps us a, ?_⟩
  ((repeat ((conv => whnf); first | refine brT ?_ | refine brF ?_)); conv => whnf)
  cases h1 : hasP ps us a
  · rw [show notB false = true by simp [notB]]
    ((repeat ((conv => whnf); first | refine brT ?_ | refine brF ?_)); conv => whnf)
    exact ⟨[.hs 0 0], rfl, rfl, .nl [.tmp 0 [] false 3 1] [.old 1] ⟨⟨rfl, rfl, trivial⟩, ⟨rfl, rfl, trivial⟩, rfl⟩⟩
  rw [show notB true = false by simp [notB]]
  ((repeat ((conv => whnf); first | refine brT ?_ | refine brF ?_)); conv => whnf)
  refine ⟨_, l1Has_spec ps us b, ?_⟩
  ((repeat ((conv => whnf); first | refine brT ?_ | refine brF ?_)); conv => whnf)
  cases h2 : hasP ps us b
  · rw [show notB false = true by simp [notB]]
    ((repeat ((conv => whnf); first | refine brT ?_ | refine brF ?_)); conv => whnf)
    exact ⟨[.hs 0 0], rfl, rfl, .nl [.tmp 0 [] false 3 1] [.old 1] ⟨⟨rfl, rfl, trivial⟩, ⟨rfl, rfl, trivial⟩, rfl⟩⟩
  rw [show notB true = false by simp [notB]]
  obtain ⟨a0, al, hl, hpi⟩ := hasP_in h1
  obtain ⟨b0, bl, _, _⟩ := hasP_in h2
  have hf := (hasP_lt h1).2.2
  obtain ⟨n, rfl⟩ : ∃ n : Nat, a = (n : Int) := ⟨a.toNat, by omega⟩
  obtain ⟨m, rfl⟩ : ∃ m : Nat, b = (m : Int) := ⟨b.toNat, by omega⟩
  simp only [Int.toNat_natCast] at al bl
  rw [Int.toNat_natCast, Int.toNat_natCast]
  ((repeat ((conv => whnf); first | refine brT ?_ | refine brF ?_)); conv => whnf)
  refine ⟨[], _, _, _, _, l8Common_h ps us hf n m al bl, rfl, rfl, rfl, trivial, ?_⟩
  ((repeat ((conv => whnf); first | refine brT ?_ | refine brF ?_)); conv => whnf)
  exact ⟨[.hs 0 (rowW (comQ ps n m) ps.length).length], rfl, rfl, .inr ⟨[.old 1], ⟨rfl, rfl, trivial⟩, ⟨rfl, rfl, trivial⟩, rfl⟩⟩
end Go.Proofs.YtgkjafmmekjjlaaGreat
namespace Go.Proofs.YtgkjafmmekjjlaaGreat
open Go.Lg Go.Pm
end Go.Proofs.YtgkjafmmekjjlaaGreat
namespace Go.Proofs.YtgkjafmmekjjlaaGreat
open Go.Lg Go.Pm
theorem com_lt {ps : List Per} {us : List Uni} {a b : Int} : ∀ x ∈ comL ps us a b, x < ps.length := fun x hx => by
  unfold comL at hx
  split at hx
  · exact wantL_lt hx
  · simp at hx
theorem com_len (ps : List Per) (us : List Uni) (a b : Int) : (comL ps us a b).length ≤ ps.length := by
  unfold comL; split
  · exact wantL_len _ _
  · simp
theorem natl_get {C : List Nat} {k : Nat} (h : k < C.length) : (C.map natLV)[k]? = some (.int .i64 (C[k] : Int)) := by
  rw [List.getElem?_map, List.getElem?_eq_getElem h]; rfl
end Go.Proofs.YtgkjafmmekjjlaaGreat
namespace Go.Proofs.YtgkjafmmekjjlaaGreat
open Go.Lg Go.Pm
def lkLV (p : Int × Int) : LV := .st [.int .i64 p.1, .int .i64 p.2]
def lkOf (ps : List Per) (a b q : Nat) : Int × Int := (upd ps a q, upd ps b q)
theorem com_pos {ps : List Per} {a b q : Nat} (h : comQ ps a b q = true) : 0 ≤ upd ps a q ∧ 0 ≤ upd ps b q := by
  unfold comQ at h; rw [Bool.and_eq_true, leI_t, leI_t] at h; exact h
theorem links1_spec {ps : List Per} (hp : parsIn ps) (hs : shallow (depths ps) = true) {a b q : Nat} (ha : a < ps.length) (hb : b < ps.length) (hq : q < ps.length) (hc : comQ ps a b q = true) :
    FSpec env.P 174 [.int .i64 (q : Int), .ref (upL ps), .ref (.int .i64 (a : Int)), .ref (.int .i64 (b : Int))] (lkLV (lkOf ps a b q)) := by
  refine FSpec_of_code env_ok (fn := Tryz.f174) Tryz.func174 rfl Tryz.call174 _ _ ?_
  obtain ⟨h1, h2⟩ := com_pos hc
  have e1 := tooF_pos h1
  have e2 := tooF_pos h2
  unfold upL
  ((repeat ((conv => whnf); first | refine brT ?_ | refine brF ?_)); conv => whnf)
  refine ⟨false, 15, by kernel_rfl, ?_⟩
  ((repeat ((conv => whnf); first | refine brT ?_ | refine brF ?_)); conv => whnf)
  refine ⟨a, _, rfl, clT_row hp hs ha, rfl, ?_⟩
  ((repeat ((conv => whnf); first | refine brT ?_ | refine brF ?_)); conv => whnf)
  refine ⟨q, _, rfl, tooRow_at hq, rfl, ?_⟩
  ((repeat ((conv => whnf); first | refine brT ?_ | refine brF ?_)); conv => whnf)
  refine ⟨b, _, rfl, clT_row hp hs hb, rfl, ?_⟩
  ((repeat ((conv => whnf); first | refine brT ?_ | refine brF ?_)); conv => whnf)
  refine ⟨q, _, rfl, tooRow_at hq, rfl, ?_⟩
  ((repeat ((conv => whnf); first | refine brT ?_ | refine brF ?_)); conv => whnf)
  rw [e1, e2]
  refine ⟨_, rfl, rfl, ?_⟩
  simp [lkLV, lkOf, exW, exsW]
theorem flat_lk {α : Type} (e : Nat) (g : α → Int × Int) (L : List α) : flatT (.own e 2 (L.map fun q => lkLV (g q))) = true := by
  simp only [flatT, flatB]
  induction L with
  | nil => rfl
  | cons x L ih => show (flatB (lkLV (g x)) && flatsB (L.map fun q => lkLV (g q))) = true; rw [ih]; rfl
theorem mapLk (F : Nat) (x y z : LV) (f : Nat → Int × Int) (C : List Nat) (hb : C.length ≤ 1048576) (hF : ∀ q ∈ C, FSpec env.P F [.int .i64 (q : Int), .ref x, .ref y, .ref z] (lkLV (f q))) :
    FSpec env.P 172 [.sl (C.map natLV), .clos F [.ref x, .ref y, .ref z]] (.own 195 2 (C.map fun q => lkLV (f q))) := by
  refine FSpec_of_code env_ok (fn := Tryz.f172) Tryz.func172 rfl Tryz.call172 _ _ ?_
  ((repeat ((conv => whnf); first | refine brT ?_ | refine brF ?_)); conv => whnf)
  intro hp
  have hp' : C.length ≤ Go.maxLen := by simpa using hp
  ((repeat ((conv => whnf); first | refine brT ?_ | refine brF ?_)); conv => whnf)
  refine ⟨C.length, by simp, by simp, by show 16 * C.length ≤ _; omega, hp', rfl, by decide, ?_⟩
  ((repeat ((conv => whnf); first | refine brT ?_ | refine brF ?_)); conv => whnf)
  intro _
  ((repeat ((conv => whnf); first | refine brT ?_ | refine brF ?_)); conv => whnf)
  refine loop_rule (α := Nat) (fun k => [(13, .int .i64 (k : Int))]) (fun k => [.arr 195 2 (fillLV (fun q => lkLV (f q)) (lkLV (0, 0)) C k)]) (fun k => C.length - k) (fun k => k ≤ C.length) 0 (Nat.zero_le _) ?_ ?_
  · refine ⟨?_, ⟨by simp [fillLV, lkLV], trivial⟩, rfl, rfl⟩
    ((repeat ((conv => whnf); refine ⟨rfl, ?_⟩)); trivial)
  intro k hk
  ((repeat ((conv => whnf); first | refine brT ?_ | refine brF ?_)); conv => whnf)
  (refine ⟨fun h1 => ?_, fun h1 => ?_⟩ <;> rw [h1])
  · have hlt : k < C.length := by rw [ltI_t] at h1; simp at h1; omega
    have e := step_i hlt hp'
    ((repeat ((conv => whnf); first | refine brT ?_ | refine brF ?_)); conv => whnf)
    refine ⟨k, .int .i64 (C[k] : Int), rfl, natl_get hlt, rfl, ?_⟩
    ((repeat ((conv => whnf); first | refine brT ?_ | refine brF ?_)); conv => whnf)
    refine ⟨_, hF _ (List.getElem_mem hlt), ?_⟩
    ((repeat ((conv => whnf); first | refine brT ?_ | refine brF ?_)); conv => whnf)
    refine ⟨(fill_len hk).symm, rfl, k, rfl, by rw [fill_len hk]; exact hlt, ?_⟩
    ((repeat ((conv => whnf); first | refine brT ?_ | refine brF ?_)); conv => whnf)
    refine ⟨(fill_len hk).symm, k, [], lkLV (0, 0), rfl, by simp [getP, fill_get hlt], rfl, rfl, rfl, fillLV (fun q => lkLV (f q)) (lkLV (0, 0)) C (k + 1), by rw [fill_get hlt]; exact fill_set (lv := fun q => lkLV (f q)) hlt, ?_⟩
    ((repeat ((conv => whnf); first | refine brT ?_ | refine brF ?_)); conv => whnf)
    refine round_end (k + 1) hlt (by omega) ⟨?_, ⟨rfl, trivial⟩, rfl, rfl⟩
    ((repeat ((conv => whnf); first | refine ⟨e, ?_⟩ | refine ⟨rfl, ?_⟩)); trivial)
  · have h4 : k = C.length := by rw [ltI_f] at h1; simp at h1; omega
    subst h4
    ((repeat ((conv => whnf); first | refine brT ?_ | refine brF ?_)); conv => whnf)
    exact ⟨(fill_len (Nat.le_refl _)).symm, rfl, rfl, fill_all, by simp⟩
def linksL (ps : List Per) (us : List Uni) (a b : Int) : List (Int × Int) := (comL ps us a b).map (lkOf ps a.toNat b.toNat)
theorem com_q {ps : List Per} {us : List Uni} {a b : Int} : ∀ x ∈ comL ps us a b, comQ ps a.toNat b.toNat x = true := fun x hx => by
  unfold comL at hx
  split at hx
  · exact (List.mem_filter.1 hx).2
  · simp at hx
theorem climbLinks_f (ps : List Per) (us : List Uni) (a b : Int) (h : (hasP ps us a && hasP ps us b) = true) : FSpec env.P 157 [upL ps, famLV ps us, .int .i64 a, .int .i64 b] (.sl ((linksL ps us a b).map lkLV)) := by
  refine FSpec_of_code env_ok (fn := Tryz.f157) Tryz.func157 rfl Tryz.call157 _ _ ?_
  have hcq := com_q (ps := ps) (us := us) (a := a) (b := b)
  have hcl := com_lt (ps := ps) (us := us) (a := a) (b := b)
  have hcn := com_len ps us a b
  have hCe : ∀ n m : Nat, a = (n : Int) → b = (m : Int) → comL ps us a b = wantL (comQ ps n m) ps.length := fun n m e1 e2 => by
    subst e1 e2; unfold comL; rw [h]; rfl
  unfold linksL
  generalize comL ps us a b = C at hcq hcl hcn hCe ⊢
  obtain ⟨h1, h2⟩ := Bool.and_eq_true_iff.1 h
  obtain ⟨a0, al, hl, hpi⟩ := hasP_in h1
  obtain ⟨b0, bl, _, _⟩ := hasP_in h2
  have hf := (hasP_lt h1).2.2
  have hsh := fam_sh hf
  obtain ⟨n, rfl⟩ : ∃ n : Nat, a = (n : Int) := ⟨a.toNat, by omega⟩
  obtain ⟨m, rfl⟩ : ∃ m : Nat, b = (m : Int) := ⟨b.toNat, by omega⟩
  simp only [Int.toNat_natCast] at al bl hcq
  rw [Int.toNat_natCast, Int.toNat_natCast]
  have hw := common_h ps us n m hf al bl
  rw [rowW_eq, ← hCe n m rfl rfl] at hw
  have hw := nats_f hw
  have hm := mapLk 174 (upL ps) (.int .i64 (n : Int)) (.int .i64 (m : Int)) (lkOf ps n m) C (by omega) (fun q hq => links1_spec hpi hsh al bl (hcl q hq) (hcq q hq))
  unfold upL at hw hm ⊢
  ((repeat ((conv => whnf); first | refine brT ?_ | refine brF ?_)); conv => whnf)
  refine ⟨_, hw, ?_⟩
  ((repeat ((conv => whnf); first | refine brT ?_ | refine brF ?_)); conv => whnf)
  refine ⟨_, hm, ?_⟩
  rw [flat_lk]
  ((repeat ((conv => whnf); first | refine brT ?_ | refine brF ?_)); conv => whnf)
  exact ⟨by rw [List.map_map]; rfl, List.nodup_nil⟩
def or3 (a b c : Int) : Int := orI a (orI b c)
def cmpK (p c : Int × Int) : Int := or3 (cmpI (p.1 + p.2) (c.1 + c.2)) (cmpI (maxI p.1 p.2) (maxI c.1 c.2)) (cmpI p.1 c.1)
def lessL (p c : Int × Int) : Bool := ltI (p.1 + p.2) (c.1 + c.2) || (eqI (p.1 + p.2) (c.1 + c.2) && (ltI (maxI p.1 p.2) (maxI c.1 c.2) || (eqI (maxI p.1 p.2) (maxI c.1 c.2) && ltI p.1 c.1)))
theorem cmp_or (a b x : Int) : ltI (orI (cmpI a b) x) 0 = (ltI a b || (eqI a b && ltI x 0)) := by
  rcases Int.lt_trichotomy a b with h | h | h
  · rw [show cmpI a b = -1 by unfold cmpI; rw [ltI_t.2 h], ltI_t.2 h, show orI (-1) x = -1 by unfold orI; rw [show eqI (-1) 0 = false by rw [eqI_f]; omega]]
    rw [show ltI (-1) 0 = true by rw [ltI_t]; omega]; rfl
  · subst h
    rw [show cmpI a a = 0 by unfold cmpI; rw [ltI_f.2 (Int.le_refl _)], ltI_f.2 (Int.le_refl _), eqI_refl, show orI 0 x = x by unfold orI; rw [eqI_refl]]
    rfl
  · have h1 : ltI a b = false := ltI_f.2 (by omega)
    have h2 : eqI a b = false := eqI_f.2 (by omega)
    have h3 : cmpI a b = 1 := by unfold cmpI; rw [h1, ltI_t.2 h]
    have h4 : orI 1 x = 1 := by unfold orI; rw [show eqI 1 0 = false by rw [eqI_f]; omega]
    have h5 : ltI 1 0 = false := ltI_f.2 (by omega)
    rw [h3, h4, h5, h1, h2]; rfl
theorem cmp_last (a b : Int) : ltI (cmpI a b) 0 = ltI a b := by
  have := cmp_or a b 0
  rw [show ltI 0 0 = false from ltI_f.2 (Int.le_refl _), Bool.and_false, Bool.or_false] at this
  rw [← this]
  congr 1
  unfold orI
  cases h : eqI (cmpI a b) 0 with
  | true => exact eqI_t.1 h
  | false => rfl
theorem cmp_less (p c : Int × Int) : ltI (cmpK p c) 0 = lessL p c := by
  unfold cmpK lessL or3
  rw [cmp_or, cmp_or, cmp_last]
theorem or3_spec (a b c : Int) : FSpec env.P 185 [.sl [.int .i64 a, .int .i64 b, .int .i64 c]] (.int .i64 (or3 a b c)) := by
  refine FSpec_of_code env_ok (fn := Tryz.f185) Tryz.func185 rfl Tryz.call185 _ _ ?_
  ((repeat ((conv => whnf); first | refine brT ?_ | refine brF ?_)); conv => whnf)
  intro _
  ((repeat ((conv => whnf); first | refine brT ?_ | refine brF ?_)); conv => whnf)
  refine loop_rule (α := Nat) (fun k => [(8, .int .i64 (k : Int))]) (fun k => []) (fun k => 3 - k) (fun k => k ≤ 3 ∧ (1 ≤ k → a = 0) ∧ (2 ≤ k → b = 0) ∧ (3 ≤ k → c = 0)) 0 ⟨by omega, by omega, by omega, by omega⟩ ?_ ?_
  · refine ⟨?_, trivial, rfl, rfl⟩
    ((repeat ((conv => whnf); refine ⟨rfl, ?_⟩)); trivial)
  rintro k ⟨hk, ha, hb, hc⟩
  ((repeat ((conv => whnf); first | refine brT ?_ | refine brF ?_)); conv => whnf)
  (refine ⟨fun h1 => ?_, fun h1 => ?_⟩ <;> rw [h1])
  · have hlt : k < 3 := by rw [ltI_t] at h1; simp at h1; omega
    have e : LV.int .i64 (IntKind.i64.wrap ((k : Int) + 1)) = LV.int .i64 ((k + 1 : Nat) : Int) := step_i hlt (by decide)
    ((repeat ((conv => whnf); first | refine brT ?_ | refine brF ?_)); conv => whnf)
    refine ⟨k, .int .i64 ([a, b, c][k]'hlt), rfl, ?_, rfl, ?_⟩
    · match k, hlt with
      | 0, _ => rfl
      | 1, _ => rfl
      | 2, _ => rfl
    ((repeat ((conv => whnf); first | refine brT ?_ | refine brF ?_)); conv => whnf)
    (refine ⟨fun h2 => ?_, fun h2 => ?_⟩ <;> rw [h2])
    · ((repeat ((conv => whnf); first | refine brT ?_ | refine brF ?_)); conv => whnf)
      refine ⟨rfl, ?_, List.nodup_nil⟩
      rw [notB_t, eqI_f] at h2
      match k, hlt, h2 with
      | 0, _, h2 => have h2 : a ≠ 0 := h2; unfold or3 orI; rw [eqI_f.2 h2]; rfl
      | 1, _, h2 => have h3 : b ≠ 0 := h2; have := ha (by omega); subst this; unfold or3 orI; rw [eqI_refl, eqI_f.2 h3]; rfl
      | 2, _, h2 => have := ha (by omega); subst this; have := hb (by omega); subst this; unfold or3 orI; rw [eqI_refl]; rfl
    · rw [notB_f, eqI_t] at h2
      ((repeat ((conv => whnf); first | refine brT ?_ | refine brF ?_)); conv => whnf)
      refine round_end (k + 1) ⟨hlt, fun _ => ?_, fun _ => ?_, fun _ => ?_⟩ (by omega) ⟨?_, trivial, rfl, rfl⟩
      · match k, hlt, h2 with
        | 0, _, h2 => exact h2
        | 1, _, _ => exact ha (by omega)
        | 2, _, _ => exact ha (by omega)
      · match k, hlt, h2 with
        | 0, _, _ => omega
        | 1, _, h2 => exact h2
        | 2, _, _ => exact hb (by omega)
      · match k, hlt, h2 with
        | 0, _, _ => omega
        | 1, _, _ => omega
        | 2, _, h2 => exact h2
      ((repeat ((conv => whnf); first | refine ⟨e, ?_⟩ | refine ⟨rfl, ?_⟩)); trivial)
  · have h4 : k = 3 := by rw [ltI_f] at h1; simp at h1; omega
    subst h4
    ((repeat ((conv => whnf); first | refine brT ?_ | refine brF ?_)); conv => whnf)
    refine ⟨rfl, ?_, List.nodup_nil⟩
    rw [ha (by omega), hb (by omega), hc (by omega)]; unfold or3 orI; rw [eqI_refl]
def smallP (p : Int × Int) : Prop := 0 ≤ p.1 ∧ p.1 ≤ 10 ∧ 0 ≤ p.2 ∧ p.2 ≤ 10
theorem compareLinks_spec (p c : Int × Int) (hp : smallP p) (hc : smallP c) : FSpec env.P 182 [lkLV p, lkLV c] (.int .i64 (cmpK p c)) := by
  refine FSpec_of_code env_ok (fn := Tryz.f182) Tryz.func182 rfl Tryz.call182 _ _ ?_
  obtain ⟨p1, p2, p3, p4⟩ := hp
  obtain ⟨c1, c2, c3, c4⟩ := hc
  have e1 : IntKind.i64.wrap (p.1 + p.2) = p.1 + p.2 := wrap64 (by omega) (by omega)
  have e2 : IntKind.i64.wrap (c.1 + c.2) = c.1 + c.2 := wrap64 (by omega) (by omega)
  ((repeat ((conv => whnf); first | refine brT ?_ | refine brF ?_)); conv => whnf)
  refine ⟨true, by kernel_rfl, ?_⟩
  ((repeat ((conv => whnf); first | refine brT ?_ | refine brF ?_)); conv => whnf)
  refine ⟨_, compare_spec _ _, ?_⟩
  ((repeat ((conv => whnf); first | refine brT ?_ | refine brF ?_)); conv => whnf)
  refine ⟨_, compare_spec _ _, ?_⟩
  ((repeat ((conv => whnf); first | refine brT ?_ | refine brF ?_)); conv => whnf)
  refine ⟨_, compare_spec _ _, ?_⟩
  ((repeat ((conv => whnf); first | refine brT ?_ | refine brF ?_)); conv => whnf)
  refine ⟨rfl, ?_⟩
  ((repeat ((conv => whnf); first | refine brT ?_ | refine brF ?_)); conv => whnf)
  refine ⟨_, or3_spec _ _ _, ?_⟩
  ((repeat ((conv => whnf); first | refine brT ?_ | refine brF ?_)); conv => whnf)
  rw [e1, e2]
  exact ⟨rfl, rfl, List.nodup_nil⟩
def stpK (c p : Int × Int) : Int × Int := match ltI c.1 0 || lessL p c with | true => p | false => c
def bstL (L : List (Int × Int)) : Nat → Int × Int
  | 0 => (-1, -1)
  | k + 1 => match L[k]? with | some p => stpK (bstL L k) p | none => bstL L k
theorem bst_succ {L : List (Int × Int)} {k : Nat} (h : k < L.length) : bstL L (k + 1) = stpK (bstL L k) L[k] := by
  simp [bstL, h]
theorem bst_small {L : List (Int × Int)} (hL : ∀ p ∈ L, smallP p) : ∀ k, k + 1 ≤ L.length → smallP (bstL L (k + 1))
  | 0, h => by
    rw [bst_succ (by omega)]
    unfold stpK
    split
    · exact hL _ (List.getElem_mem _)
    · rename_i hh; simp [bstL, ltI] at hh
  | k + 1, h => by
    rw [bst_succ (by omega)]
    unfold stpK
    split
    · exact hL _ (List.getElem_mem _)
    · exact bst_small hL k (by omega)
theorem bst_one {L : List (Int × Int)} (h : 0 < L.length) : bstL L 1 = L[0] := by
  rw [bst_succ h]; unfold stpK; rw [show ltI (bstL L 0).1 0 = true by rw [ltI_t]; show (-1 : Int) < 0; omega]; rfl
theorem minFunc_spec (L : List (Int × Int)) (hL : ∀ p ∈ L, smallP p) (h0 : 0 < L.length) (hm : L.length ≤ 40) : FSpec env.P 181 [.sl (L.map lkLV), .clos 182 []] (lkLV (bstL L L.length)) := by
  refine FSpec_of_code env_ok (fn := Tryz.f181) Tryz.func181 rfl Tryz.call181 _ _ ?_
  have hLm : (L.map lkLV).length = L.length := List.length_map ..
  have hm40 : L.length ≤ Go.maxLen := by unfold Go.maxLen; omega
  ((repeat ((conv => whnf); first | refine brT ?_ | refine brF ?_)); conv => whnf)
  intro _
  ((repeat ((conv => whnf); first | refine brT ?_ | refine brF ?_)); conv => whnf)
  rw [hLm, show ltI (L.length : Int) 1 = false by rw [ltI_f]; omega]
  ((repeat ((conv => whnf); first | refine brT ?_ | refine brF ?_)); conv => whnf)
  refine ⟨0, lkLV L[0], rfl, by rw [List.getElem?_map, List.getElem?_eq_getElem h0]; rfl, rfl, ?_⟩
  ((repeat ((conv => whnf); first | refine brT ?_ | refine brF ?_)); conv => whnf)
  refine loop_rule (α := Nat) (fun k => [(6, .int .i64 (k : Int))]) (fun k => [.box (lkLV (0, 0)), .box (lkLV (bstL L k))]) (fun k => L.length - k) (fun k => 1 ≤ k ∧ k ≤ L.length) 1 ⟨Nat.le_refl _, h0⟩ ?_ ?_
  · refine ⟨?_, ⟨rfl, by rw [bst_one h0]; rfl, trivial⟩, rfl, rfl⟩
    ((repeat ((conv => whnf); refine ⟨rfl, ?_⟩)); trivial)
  rintro k ⟨hk1, hk⟩
  have hs := bst_small hL (k - 1) (by omega)
  rw [Nat.sub_add_cancel hk1] at hs
  ((repeat ((conv => whnf); first | refine brT ?_ | refine brF ?_)); conv => whnf)
  intro _
  ((repeat ((conv => whnf); first | refine brT ?_ | refine brF ?_)); conv => whnf)
  rw [hLm]
  (refine ⟨fun g1 => ?_, fun g1 => ?_⟩ <;> rw [g1])
  · have hlt : k < L.length := by rw [ltI_t] at g1; omega
    have e := step_i hlt hm40
    have hp := hL _ (List.getElem_mem hlt)
    have hget : (L.map lkLV)[k]? = some (lkLV L[k]) := by rw [List.getElem?_map, List.getElem?_eq_getElem hlt]; rfl
    have hcs := compareLinks_spec L[k] (bstL L k) hp hs
    have hn := bst_succ hlt
    unfold stpK at hn
    rw [show ltI (bstL L k).1 0 = false by rw [ltI_f]; exact hs.1, Bool.false_or, ← cmp_less] at hn
    generalize L[k] = p at hget hcs hn
    ((repeat ((conv => whnf); first | refine brT ?_ | refine brF ?_)); conv => whnf)
    refine ⟨true, by kernel_rfl, ?_⟩
    ((repeat ((conv => whnf); first | refine brT ?_ | refine brF ?_)); conv => whnf)
    refine ⟨k, lkLV p, rfl, hget, rfl, ?_⟩
    ((repeat ((conv => whnf); first | refine brT ?_ | refine brF ?_)); conv => whnf)
    refine ⟨_, hcs, ?_⟩
    ((repeat ((conv => whnf); first | refine brT ?_ | refine brF ?_)); conv => whnf)
    (refine ⟨fun g2 => ?_, fun g2 => ?_⟩ <;> rw [g2])
    · rw [g2] at hn
      ((repeat ((conv => whnf); first | refine brT ?_ | refine brF ?_)); conv => whnf)
      refine ⟨k, lkLV p, rfl, hget, rfl, ?_⟩
      ((repeat ((conv => whnf); first | refine brT ?_ | refine brF ?_)); conv => whnf)
      refine round_end (k + 1) ⟨by omega, hlt⟩ (by omega) ⟨?_, ⟨rfl, by rw [hn]; rfl, trivial⟩, rfl, rfl⟩
      ((repeat ((conv => whnf); first | refine ⟨e, ?_⟩ | refine ⟨rfl, ?_⟩)); trivial)
    · rw [g2] at hn
      ((repeat ((conv => whnf); first | refine brT ?_ | refine brF ?_)); conv => whnf)
      refine round_end (k + 1) ⟨by omega, hlt⟩ (by omega) ⟨?_, ⟨rfl, by rw [hn], trivial⟩, rfl, rfl⟩
      ((repeat ((conv => whnf); first | refine ⟨e, ?_⟩ | refine ⟨rfl, ?_⟩)); trivial)
  · have h4 : k = L.length := by rw [ltI_f] at g1; omega
    subst h4
    ((repeat ((conv => whnf); first | refine brT ?_ | refine brF ?_)); conv => whnf)
    exact ⟨_, rfl, rfl, by simp [lkLV, exW, exsW]⟩
end Go.Proofs.YtgkjafmmekjjlaaGreat
namespace Go.Proofs.YtgkjafmmekjjlaaGreat
open Go.Lg Go.Pm
theorem links_small (ps : List Per) (us : List Uni) (a b : Int) : ∀ p ∈ linksL ps us a b, smallP p := fun p hp => by
  unfold linksL at hp
  obtain ⟨q, hq, rfl⟩ := List.mem_map.1 hp
  have hc := com_pos (com_q q hq)
  have hl := com_lt q hq
  unfold comL at hq
  split at hq
  · rename_i h
    obtain ⟨h1, h2⟩ := Bool.and_eq_true_iff.1 h
    obtain ⟨a0, al, _, hpi⟩ := hasP_in h1
    obtain ⟨b0, bl, _, _⟩ := hasP_in h2
    have hsh := fam_sh (hasP_lt h1).2.2
    exact ⟨hc.1, (upd_small hpi hsh al hl).2, hc.2, (upd_small hpi hsh bl hl).2⟩
  · simp at hq
theorem links_len (ps : List Per) (us : List Uni) (a b : Int) : (linksL ps us a b).length ≤ 40 := by
  unfold linksL
  rw [List.length_map]
  unfold comL
  split
  · rename_i h
    have := fam_40 (hasP_lt (Bool.and_eq_true_iff.1 h).1).2.2
    exact Nat.le_trans (wantL_len _ _) this
  · simp
def lkB (L : List (Int × Int)) : Bool := notB (eqI (L.length : Int) 0)
def lkR (L : List (Int × Int)) : Int × Int := match eqI (L.length : Int) 0 with | true => (0, 0) | false => bstL L L.length
theorem leastLink_f (L : List (Int × Int)) (hs : ∀ p ∈ L, smallP p) (hm : L.length ≤ 40) : FSpec env.P 168 [.sl (L.map lkLV)] (.tup [lkLV (lkR L), .bool (lkB L)]) := by
  refine FSpec_of_code env_ok (fn := Tryz.f168) Tryz.func168 rfl Tryz.call168 _ _ ?_
  have hL : (L.map lkLV).length = L.length := List.length_map ..
  unfold lkR lkB
  ((repeat ((conv => whnf); first | refine brT ?_ | refine brF ?_)); conv => whnf)
  intro _
  ((repeat ((conv => whnf); first | refine brT ?_ | refine brF ?_)); conv => whnf)
  rw [hL]
  cases h : eqI (L.length : Int) 0
  · have h0 : 0 < L.length := by rw [eqI_f] at h; omega
    ((repeat ((conv => whnf); first | refine brT ?_ | refine brF ?_)); conv => whnf)
    refine ⟨_, minFunc_spec L hs h0 hm, ?_⟩
    ((repeat ((conv => whnf); first | refine brT ?_ | refine brF ?_)); conv => whnf)
    refine ⟨_, rfl, rfl, ?_⟩
    simp [lkLV, exW, exsW, notB]
    exact ⟨rfl, List.nodup_nil⟩
  · ((repeat ((conv => whnf); first | refine brT ?_ | refine brF ?_)); conv => whnf)
    refine ⟨_, rfl, rfl, ?_⟩
    simp [lkLV, exW, exsW, notB]
    exact ⟨rfl, List.nodup_nil⟩
theorem linkOf_spec (ps : List Per) (us : List Uni) (a b : Int) : FSpec env.P 148 [famLV ps us, .int .i64 a, .int .i64 b] (.tup [.int .i64 (lkR (linksL ps us a b)).1, .int .i64 (lkR (linksL ps us a b)).2, .bool (lkB (linksL ps us a b))]) := by
  refine FSpec_of_code env_ok (fn := Tryz.f148) Tryz.func148 rfl Tryz.call148 _ _ ?_
  have hs := links_small ps us a b
  have hcl := com_lt (ps := ps) (us := us) (a := a) (b := b)
  have hw := nats_f (commons_spec ps us a b)
  have hm := links_len ps us a b
  have hF : 0 < (comL ps us a b).length → (∃ n : Nat, a = n ∧ n < ps.length) ∧ (∃ m : Nat, b = m ∧ m < ps.length) ∧ ps.length ≤ 40 ∧ parsIn ps ∧ shallow (depths ps) = true := fun h0 => by
    unfold comL at h0
    split at h0
    · rename_i h
      obtain ⟨h1, h2⟩ := Bool.and_eq_true_iff.1 h
      obtain ⟨a0, al, hl, hpi⟩ := hasP_in h1
      obtain ⟨b0, bl, _, _⟩ := hasP_in h2
      exact ⟨⟨a.toNat, by omega, al⟩, ⟨b.toNat, by omega, bl⟩, hl, hpi, fam_sh (hasP_lt h1).2.2⟩
    · simp at h0
  unfold linksL at hs hm ⊢
  generalize comL ps us a b = C at hcl hw hF hs hm ⊢
  rw [List.length_map] at hm
  have hC : (C.map natLV).length = C.length := List.length_map ..
  have hm40 : C.length ≤ Go.maxLen := by unfold Go.maxLen; omega
  have hLg : ∀ (k : Nat) (h : k < C.length), (C.map (lkOf ps a.toNat b.toNat))[k]? = some (lkOf ps a.toNat b.toNat C[k]) := fun k h => by rw [List.getElem?_map, List.getElem?_eq_getElem h]; rfl
  have hLl : (C.map (lkOf ps a.toNat b.toNat)).length = C.length := List.length_map ..
  generalize C.map (lkOf ps a.toNat b.toNat) = L at hs hLg hLl ⊢
  unfold lkR lkB
  ((repeat ((conv => whnf); first | refine brT ?_ | refine brF ?_)); conv => whnf)
  refine ⟨_, hw, ?_⟩
  ((repeat ((conv => whnf); first | refine brT ?_ | refine brF ?_)); conv => whnf)
  intro _
  ((repeat ((conv => whnf); first | refine brT ?_ | refine brF ?_)); conv => whnf)
  rw [hC]
  refine loop_rule (α := Nat) (fun k => [(9, .int .i64 (bstL L k).1), (10, .int .i64 (bstL L k).2), (20, .int .i64 (k : Int))]) (fun k => [.box (famLV ps us)]) (fun k => C.length - k) (fun k => k ≤ C.length) 0 (Nat.zero_le _) ?_ ?_
  · refine ⟨?_, ⟨rfl, trivial⟩, rfl, rfl⟩
    ((repeat ((conv => whnf); refine ⟨rfl, ?_⟩)); trivial)
  intro k hk
  generalize hK : kk _ = KK
  ((repeat ((conv => whnf); first | refine brT ?_ | refine brF ?_)); conv => whnf)
  (refine ⟨fun g1 => ?_, fun g1 => ?_⟩ <;> rw [g1])
  · have hlt : k < C.length := by rw [ltI_t] at g1; omega
    have e := step_i hlt hm40
    obtain ⟨⟨n, rfl, al⟩, ⟨m, rfl, bl⟩, hl, hpi, hsh⟩ := hF (by omega)
    have hq := hcl _ (List.getElem_mem hlt)
    have hge := natl_get hlt
    have hn0 : bstL L (k + 1) = stpK (bstL L k) (lkOf ps (n : Int).toNat (m : Int).toNat C[k]) := by rw [bstL, hLg k hlt]
    have hp := hs _ (List.mem_of_getElem? (hLg k hlt))
    generalize C[k] = q at hq hge hn0 hp
    rw [Int.toNat_natCast, Int.toNat_natCast] at hn0 hp
    have hc : (k = 0) ∨ smallP (bstL L k) := by
      rcases Nat.eq_zero_or_pos k with h | h
      · exact .inl h
      · right
        have := bst_small hs (k - 1) (by omega)
        rwa [Nat.sub_add_cancel h] at this
    obtain ⟨p1, p2, p3, p4⟩ := hp
    change 0 ≤ upd ps n q at p1
    change upd ps n q ≤ 10 at p2
    change 0 ≤ upd ps m q at p3
    change upd ps m q ≤ 10 at p4
    ((repeat ((conv => whnf); first | refine brT ?_ | refine brF ?_)); conv => whnf)
    refine ⟨k, .int .i64 (q : Int), rfl, hge, rfl, ?_⟩
    ((repeat ((conv => whnf); first | refine brT ?_ | refine brF ?_)); conv => whnf)
    refine ⟨_, up_f ps us hl hpi hsh n al, ?_⟩
    ((repeat ((conv => whnf); first | refine brT ?_ | refine brF ?_)); conv => whnf)
    refine ⟨q, intLV (upd ps n q), rfl, upRow_get hq, rfl, ?_⟩
    ((repeat ((conv => whnf); first | refine brT ?_ | refine brF ?_)); conv => whnf)
    refine ⟨_, up_f ps us hl hpi hsh m bl, ?_⟩
    ((repeat ((conv => whnf); first | refine brT ?_ | refine brF ?_)); conv => whnf)
    refine ⟨q, intLV (upd ps m q), rfl, upRow_get hq, rfl, ?_⟩
    ((repeat ((conv => whnf); first | refine brT ?_ | refine brF ?_)); conv => whnf)
    have ep : lkOf ps n m q = (upd ps n q, upd ps m q) := rfl
    rw [ep] at hn0
    generalize upd ps n q = x at p1 p2 hn0
    generalize upd ps m q = y at p3 p4 hn0
    rcases hc with hc | hc
    · have h9 : ltI (bstL L k).1 0 = true := by subst hc; rw [ltI_t]; show (-1 : Int) < 0; omega
      have hn : (x, y) = bstL L (k + 1) := by rw [hn0]; unfold stpK; rw [h9]; rfl
      rw [h9]
      ((repeat ((conv => whnf); first | refine brT ?_ | refine brF ?_)); conv => whnf)
      subst hK
      refine round_end (k + 1) hlt (by omega) ⟨?_, ⟨rfl, trivial⟩, rfl, rfl⟩
      repeat ((conv => whnf); first | refine ⟨e, ?_⟩ | refine ⟨congrArg (fun q : Int × Int => LV.int .i64 q.1) hn, ?_⟩ | refine ⟨congrArg (fun q : Int × Int => LV.int .i64 q.2) hn, ?_⟩ | refine ⟨rfl, ?_⟩)
      trivial
    · generalize bstL L k = c at hc hn0 ⊢
      obtain ⟨c1, c2, c3, c4⟩ := hc
      have h9 : ltI c.1 0 = false := by rw [ltI_f]; exact c1
      have w1 : IntKind.i64.wrap (x + y) = x + y := wrap64 (by omega) (by omega)
      have w2 : IntKind.i64.wrap (c.1 + c.2) = c.1 + c.2 := wrap64 (by omega) (by omega)
      rw [h9]
      ((repeat ((conv => whnf); first | refine brT ?_ | refine brF ?_)); conv => whnf)
      rw [w1, w2]
      (refine ⟨fun g2 => ?_, fun g2 => ?_⟩ <;> rw [g2])
      · have hn : (x, y) = bstL L (k + 1) := by rw [hn0]; unfold stpK lessL; rw [h9, g2]; rfl
        ((repeat ((conv => whnf); first | refine brT ?_ | refine brF ?_)); conv => whnf)
        subst hK
        refine round_end (k + 1) hlt (by omega) ⟨?_, ⟨rfl, trivial⟩, rfl, rfl⟩
        repeat ((conv => whnf); first | refine ⟨e, ?_⟩ | refine ⟨congrArg (fun q : Int × Int => LV.int .i64 q.1) hn, ?_⟩ | refine ⟨congrArg (fun q : Int × Int => LV.int .i64 q.2) hn, ?_⟩ | refine ⟨rfl, ?_⟩)
        trivial
      · ((repeat ((conv => whnf); first | refine brT ?_ | refine brF ?_)); conv => whnf)
        rw [w1, w2]
        (refine ⟨fun g3 => ?_, fun g3 => ?_⟩ <;> rw [g3])
        · ((repeat ((conv => whnf); first | refine brT ?_ | refine brF ?_)); conv => whnf)
          (refine ⟨fun g4 => ?_, fun g4 => ?_⟩ <;> rw [g4])
          · have hn : (x, y) = bstL L (k + 1) := by rw [hn0]; unfold stpK lessL; rw [h9, g2, g3, g4]; rfl
            ((repeat ((conv => whnf); first | refine brT ?_ | refine brF ?_)); conv => whnf)
            subst hK
            refine round_end (k + 1) hlt (by omega) ⟨?_, ⟨rfl, trivial⟩, rfl, rfl⟩
            repeat ((conv => whnf); first | refine ⟨e, ?_⟩ | refine ⟨congrArg (fun q : Int × Int => LV.int .i64 q.1) hn, ?_⟩ | refine ⟨congrArg (fun q : Int × Int => LV.int .i64 q.2) hn, ?_⟩ | refine ⟨rfl, ?_⟩)
            trivial
          · ((repeat ((conv => whnf); first | refine brT ?_ | refine brF ?_)); conv => whnf)
            (refine ⟨fun g5 => ?_, fun g5 => ?_⟩ <;> rw [g5])
            · ((repeat ((conv => whnf); first | refine brT ?_ | refine brF ?_)); conv => whnf)
              (refine ⟨fun g6 => ?_, fun g6 => ?_⟩ <;> rw [g6])
              · have hn : (x, y) = bstL L (k + 1) := by rw [hn0]; unfold stpK lessL; rw [h9, g2, g3, g4, g5, g6]; rfl
                ((repeat ((conv => whnf); first | refine brT ?_ | refine brF ?_)); conv => whnf)
                subst hK
                refine round_end (k + 1) hlt (by omega) ⟨?_, ⟨rfl, trivial⟩, rfl, rfl⟩
                repeat ((conv => whnf); first | refine ⟨e, ?_⟩ | refine ⟨congrArg (fun q : Int × Int => LV.int .i64 q.1) hn, ?_⟩ | refine ⟨congrArg (fun q : Int × Int => LV.int .i64 q.2) hn, ?_⟩ | refine ⟨rfl, ?_⟩)
                trivial
              · have hn : c = bstL L (k + 1) := by rw [hn0]; unfold stpK lessL; rw [h9, g2, g3, g4, g5, g6]; rfl
                ((repeat ((conv => whnf); first | refine brT ?_ | refine brF ?_)); conv => whnf)
                subst hK
                refine round_end (k + 1) hlt (by omega) ⟨?_, ⟨rfl, trivial⟩, rfl, rfl⟩
                repeat ((conv => whnf); first | refine ⟨e, ?_⟩ | refine ⟨congrArg (fun q : Int × Int => LV.int .i64 q.1) hn, ?_⟩ | refine ⟨congrArg (fun q : Int × Int => LV.int .i64 q.2) hn, ?_⟩ | refine ⟨rfl, ?_⟩)
                trivial
            · have hn : c = bstL L (k + 1) := by rw [hn0]; unfold stpK lessL; rw [h9, g2, g3, g4, g5]; rfl
              ((repeat ((conv => whnf); first | refine brT ?_ | refine brF ?_)); conv => whnf)
              subst hK
              refine round_end (k + 1) hlt (by omega) ⟨?_, ⟨rfl, trivial⟩, rfl, rfl⟩
              repeat ((conv => whnf); first | refine ⟨e, ?_⟩ | refine ⟨congrArg (fun q : Int × Int => LV.int .i64 q.1) hn, ?_⟩ | refine ⟨congrArg (fun q : Int × Int => LV.int .i64 q.2) hn, ?_⟩ | refine ⟨rfl, ?_⟩)
              trivial
        · have hn : c = bstL L (k + 1) := by rw [hn0]; unfold stpK lessL; rw [h9, g2, g3]; rfl
          ((repeat ((conv => whnf); first | refine brT ?_ | refine brF ?_)); conv => whnf)
          subst hK
          refine round_end (k + 1) hlt (by omega) ⟨?_, ⟨rfl, trivial⟩, rfl, rfl⟩
          repeat ((conv => whnf); first | refine ⟨e, ?_⟩ | refine ⟨congrArg (fun q : Int × Int => LV.int .i64 q.1) hn, ?_⟩ | refine ⟨congrArg (fun q : Int × Int => LV.int .i64 q.2) hn, ?_⟩ | refine ⟨rfl, ?_⟩)
          trivial
  · have h4 : k = C.length := by rw [ltI_f] at g1; omega
    subst h4
    subst hK
    rw [← hLl]
    cases h : eqI (L.length : Int) 0
    · have h0 : 0 < L.length := by rw [eqI_f] at h; omega
      have hb := bst_small hs (L.length - 1) (by omega)
      rw [Nat.sub_add_cancel h0] at hb
      ((repeat ((conv => whnf); first | refine brT ?_ | refine brF ?_)); conv => whnf)
      rw [show ltI (bstL L L.length).1 0 = false by rw [ltI_f]; exact hb.1]
      ((repeat ((conv => whnf); first | refine brT ?_ | refine brF ?_)); conv => whnf)
      (repeat (first | exact List.nodup_nil | refine ⟨rfl, ?_⟩ | refine ⟨by simp [notB], ?_⟩))
    · have h0 : L.length = 0 := by rw [eqI_t] at h; omega
      ((repeat ((conv => whnf); first | refine brT ?_ | refine brF ?_)); conv => whnf)
      rw [show ltI (bstL L L.length).1 0 = true by rw [h0, ltI_t]; show (-1 : Int) < 0; omega]
      ((repeat ((conv => whnf); first | refine brT ?_ | refine brF ?_)); conv => whnf)
      (repeat (first | exact List.nodup_nil | refine ⟨rfl, ?_⟩ | refine ⟨by simp [notB], ?_⟩))
end Go.Proofs.YtgkjafmmekjjlaaGreat
