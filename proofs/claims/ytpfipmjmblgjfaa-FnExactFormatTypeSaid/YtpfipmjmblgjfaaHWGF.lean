/- Contracts of functions of the program and of its model, told over readings. -/
import Derived.Test.YtpfipmjmblgjfaaHWGA
import Derived.Test.YtpfipmjmblgjfaaHWGE
namespace Go.Proofs.Ytpfipmjmblgjfaa
open Go.Lg Go.RowKit
set_option maxHeartbeats 3200000
set_option maxRecDepth 10000
set_option linter.unusedVariables false
set_option linter.unusedSimpArgs false

/-! ### Types as words -/
def letL : List UInt8 := [70, 77, 66, 90, 83, 68, 72, 87]
@[reducible] def letB : ByteArray := ⟨#[70, 77, 66, 90, 83, 68, 72, 87]⟩
def let8 (k : Int) : UInt8 := letL.getD (k - 1).toNat 0
def ageL (b : Int) : List UInt8 := match eqI b 1 with | true => [101] | false => match eqI b 2 with | true => [121] | false => []
def txt (ss : List Pr) : List UInt8 := ss.flatMap fun p => ageL p.b ++ [let8 p.a]
theorem txt_len (ss : List Pr) : (txt ss).length ≤ 2 * ss.length := by
  induction ss with
  | nil => simp [txt]
  | cons p ss ih =>
    have h : (ageL p.b).length ≤ 1 := by
      unfold ageL
      split
      · simp
      · split <;> simp
    simp only [txt, List.flatMap_cons, List.length_append, List.length_cons, List.length_nil] at ih ⊢
    omega
theorem txt_succ {ss : List Pr} {k : Nat} (h : k < ss.length) : txt (ss.take (k + 1)) = txt (ss.take k) ++ (ageL ss[k].b ++ [let8 ss[k].a]) := by
  unfold txt
  rw [List.take_succ_eq_append_getElem h, List.flatMap_append]; simp
def ba (l : List UInt8) : ByteArray := ⟨l.toArray⟩
theorem ba_app (l m : List UInt8) : ba l ++ ba m = ba (l ++ m) := by
  apply ByteArray.ext
  simp [ba]
theorem loop_len (bs : ByteArray) : ∀ (n i : Nat) (r : List UInt8), n = bs.size - i → (ByteArray.toList.loop bs i r).length = r.length + (bs.size - i)
  | 0, i, r, h => by
    rw [ByteArray.toList.loop]
    split
    · omega
    · simp; omega
  | n + 1, i, r, h => by
    rw [ByteArray.toList.loop]
    split
    · rw [loop_len bs n (i + 1) _ (by omega)]
      simp; omega
    · simp; omega
theorem ba_ne {l : List UInt8} (h : l ≠ []) : eqS (ba l) ⟨#[]⟩ = false := by
  unfold eqS
  rw [beq_eq_false_iff_ne]
  intro e
  have e2 := congrArg List.length e
  unfold ByteArray.toList at e2
  rw [loop_len _ _ 0 [] rfl, loop_len _ _ 0 [] rfl] at e2
  have : (ba l).size = l.length := by simp [ba, ByteArray.size]
  rw [this] at e2
  simp [ByteArray.size] at e2
  exact h e2
theorem ba_size (l : List UInt8) : (ba l).size = l.length := by simp [ba, ByteArray.size]
theorem let_ext {k : Int} (h0 : 1 ≤ k) (h1 : k ≤ 8) : letB.extract (k - 1).toNat k.toNat = ba [let8 k] ∧ letB.size = 8 := by
  have : k = 1 ∨ k = 2 ∨ k = 3 ∨ k = 4 ∨ k = 5 ∨ k = 6 ∨ k = 7 ∨ k = 8 := by omega
  refine ⟨?_, rfl⟩
  rcases this with rfl | rfl | rfl | rfl | rfl | rfl | rfl | rfl <;> (apply ByteArray.ext; rfl)
theorem let_get {k : Int} (h0 : 1 ≤ k) (h1 : k ≤ 8) : ∃ h : (k - 1).toNat < letB.size, letB[(k - 1).toNat] = let8 k := by
  have : k = 1 ∨ k = 2 ∨ k = 3 ∨ k = 4 ∨ k = 5 ∨ k = 6 ∨ k = 7 ∨ k = 8 := by omega
  rcases this with rfl | rfl | rfl | rfl | rfl | rfl | rfl | rfl <;> exact ⟨by decide, rfl⟩
def preB (e : Int) : ByteArray := match eqI e 1 with | true => ba [109, 58] | false => match eqI e 2 with | true => ba [119, 58] | false => ba []
theorem prefix_spec (e : Int) : FSpec env.P 140 [.int .i64 e] (.str (preB e)) := by
  refine FSpec_of_code env_ok (fn := Try.f140) Try.func140 rfl Try.call140 _ _ ?_
  unfold preB
  ((repeat ((conv => whnf); first | refine brT ?_ | refine brF ?_)); conv => whnf)
  (refine ⟨fun h => ?_, fun h => ?_⟩ <;> rw [h])
  · ((repeat ((conv => whnf); first | refine brT ?_ | refine brF ?_)); conv => whnf); exact ⟨rfl, List.nodup_nil⟩
  · ((repeat ((conv => whnf); first | refine brT ?_ | refine brF ?_)); conv => whnf)
    (refine ⟨fun h2 => ?_, fun h2 => ?_⟩ <;> rw [h2])
    · ((repeat ((conv => whnf); first | refine brT ?_ | refine brF ?_)); conv => whnf); exact ⟨rfl, List.nodup_nil⟩
    · ((repeat ((conv => whnf); first | refine brT ?_ | refine brF ?_)); conv => whnf); exact ⟨rfl, List.nodup_nil⟩
theorem egoText_spec (e : Int) : FSpec env.P 142 [.int .i64 e] (.str (preB e)) := by
  refine FSpec_of_code env_ok (fn := Try.f142) Try.func142 rfl Try.call142 _ _ ?_
  unfold preB
  ((repeat ((conv => whnf); first | refine brT ?_ | refine brF ?_)); conv => whnf)
  (refine ⟨fun h => ?_, fun h => ?_⟩ <;> rw [h])
  · ((repeat ((conv => whnf); first | refine brT ?_ | refine brF ?_)); conv => whnf); exact ⟨rfl, List.nodup_nil⟩
  · ((repeat ((conv => whnf); first | refine brT ?_ | refine brF ?_)); conv => whnf)
    (refine ⟨fun h2 => ?_, fun h2 => ?_⟩ <;> rw [h2])
    · ((repeat ((conv => whnf); first | refine brT ?_ | refine brF ?_)); conv => whnf); exact ⟨rfl, List.nodup_nil⟩
    · ((repeat ((conv => whnf); first | refine brT ?_ | refine brF ?_)); conv => whnf); exact ⟨rfl, List.nodup_nil⟩
theorem letters_spec : FSpec env.P 186 [] (.str letB) := by
  refine FSpec_of_code env_ok (fn := Try.f186) Try.func186 rfl Try.call186 _ _ ?_
  ((repeat ((conv => whnf); first | refine brT ?_ | refine brF ?_)); conv => whnf)
  exact ⟨rfl, List.nodup_nil⟩
def wordB (ss : List Pr) : ByteArray := match txt ss with | [] => ba [46] | l => ba l
theorem word_spec (ss : List Pr) (h8 : ss.length ≤ 8) (hk : ∀ p ∈ ss, okP p) : FSpec env.P 141 [.sl (ss.map Pr.lv)] (.str (wordB ss)) := by
  refine FSpec_of_code env_ok (fn := Try.f141) Try.func141 rfl Try.call141 _ _ ?_
  have hS : (ss.map Pr.lv).length = ss.length := List.length_map ..
  ((repeat ((conv => whnf); first | refine brT ?_ | refine brF ?_)); conv => whnf)
  intro hp
  rw [hS] at hp ⊢
  ((repeat ((conv => whnf); first | refine brT ?_ | refine brF ?_)); conv => whnf)
  refine loop_rule (α := Nat) (fun k => [(8, .int .i64 (k : Int)), (3, .str (ba (txt (ss.take k))))]) (fun _ => []) (fun k => ss.length - k) (fun k => k ≤ ss.length) 0 (Nat.zero_le _) ?_ ?_
  · refine ⟨?_, trivial, rfl, rfl⟩
    ((repeat ((conv => whnf); refine ⟨rfl, ?_⟩)); trivial)
  intro k hkk
  ((repeat ((conv => whnf); first | refine brT ?_ | refine brF ?_)); conv => whnf)
  (refine ⟨fun h1 => ?_, fun h1 => ?_⟩ <;> rw [h1])
  · have hlt : k < ss.length := by rw [ltI_t] at h1; omega
    have e := step_i hlt hp
    have hs := txt_succ hlt
    obtain ⟨o1, o2, o3, o4⟩ := hk ss[k] (List.getElem_mem hlt)
    ((repeat ((conv => whnf); first | refine brT ?_ | refine brF ?_)); conv => whnf)
    refine ⟨k, ss[k].lv, rfl, by simp [hlt], rfl, ?_⟩
    ((repeat ((conv => whnf); first | refine brT ?_ | refine brF ?_)); conv => whnf)
    have htl := txt_len (ss.take k)
    rw [List.length_take] at htl
    obtain ⟨hx, hsz⟩ := let_ext o1 o2
    have hw1 : IntKind.i64.wrap (ss[k].a - 1) = ss[k].a - 1 := wrap64 (by omega) (by omega)
    (refine ⟨fun a1 => ?_, fun a1 => ?_⟩ <;> rw [a1])
    · have hA : ageL ss[k].b = [101] := by unfold ageL; rw [a1]
      have a2 : eqI ss[k].b 2 = false := by rw [eqI_t] at a1; rw [eqI_f]; omega
      ((repeat ((conv => whnf); first | refine brT ?_ | refine brF ?_)); conv => whnf)
      refine ⟨?_, ?_⟩
      · rw [ba_size]; unfold Go.maxLen; show _ + 1 ≤ _; omega
      ((repeat ((conv => whnf); first | refine brT ?_ | refine brF ?_)); conv => whnf)
      rw [a2]
      ((repeat ((conv => whnf); first | refine brT ?_ | refine brF ?_)); conv => whnf)
      refine ⟨true, by kernel_rfl, ?_⟩
      ((repeat ((conv => whnf); first | refine brT ?_ | refine brF ?_)); conv => whnf)
      refine ⟨_, letters_spec, ?_⟩
      ((repeat ((conv => whnf); first | refine brT ?_ | refine brF ?_)); conv => whnf)
      rw [hw1]
      refine ⟨(ss[k].a - 1).toNat, ss[k].a.toNat, ?_, ?_, ?_, ?_, ?_⟩
      · show ss[k].a - 1 = _; omega
      · show ss[k].a = _; omega
      · omega
      · rw [hsz]; omega
      rw [hx]
      ((repeat ((conv => whnf); first | refine brT ?_ | refine brF ?_)); conv => whnf)
      refine ⟨?_, ?_⟩
      · show (ba (txt (ss.take k)) ++ ba [101]).size + (ba [let8 ss[k].a]).size ≤ _
        rw [ba_app, ba_size, ba_size]; simp; unfold Go.maxLen; omega
      ((repeat ((conv => whnf); first | refine brT ?_ | refine brF ?_)); conv => whnf)
      refine round_end (k + 1) hlt (by omega) ⟨?_, trivial, rfl, rfl⟩
      have e3 : LV.str (ba (txt (ss.take k)) ++ ⟨#[101]⟩ ++ ba [let8 ss[k].a]) = LV.str (ba (txt (ss.take (k + 1)))) := by rw [hs, hA]; show LV.str (ba (txt (ss.take k)) ++ ba [101] ++ ba [let8 ss[k].a]) = _; rw [ba_app, ba_app, List.append_assoc]
      (repeat ((conv => whnf); first | refine ⟨e, ?_⟩ | refine ⟨e3, ?_⟩ | refine ⟨rfl, ?_⟩))
      trivial
    · ((repeat ((conv => whnf); first | refine brT ?_ | refine brF ?_)); conv => whnf)
      (refine ⟨fun a2 => ?_, fun a2 => ?_⟩ <;> rw [a2])
      · have hA : ageL ss[k].b = [121] := by unfold ageL; rw [a1, a2]
        ((repeat ((conv => whnf); first | refine brT ?_ | refine brF ?_)); conv => whnf)
        refine ⟨?_, ?_⟩
        · rw [ba_size]; unfold Go.maxLen; show _ + 1 ≤ _; omega
        ((repeat ((conv => whnf); first | refine brT ?_ | refine brF ?_)); conv => whnf)
        refine ⟨true, by kernel_rfl, ?_⟩
        ((repeat ((conv => whnf); first | refine brT ?_ | refine brF ?_)); conv => whnf)
        refine ⟨_, letters_spec, ?_⟩
        ((repeat ((conv => whnf); first | refine brT ?_ | refine brF ?_)); conv => whnf)
        rw [hw1]
        refine ⟨(ss[k].a - 1).toNat, ss[k].a.toNat, ?_, ?_, ?_, ?_, ?_⟩
        · show ss[k].a - 1 = _; omega
        · show ss[k].a = _; omega
        · omega
        · rw [hsz]; omega
        rw [hx]
        ((repeat ((conv => whnf); first | refine brT ?_ | refine brF ?_)); conv => whnf)
        refine ⟨?_, ?_⟩
        · show (ba (txt (ss.take k)) ++ ba [121]).size + (ba [let8 ss[k].a]).size ≤ _
          rw [ba_app, ba_size, ba_size]; simp; unfold Go.maxLen; omega
        ((repeat ((conv => whnf); first | refine brT ?_ | refine brF ?_)); conv => whnf)
        refine round_end (k + 1) hlt (by omega) ⟨?_, trivial, rfl, rfl⟩
        have e3 : LV.str (ba (txt (ss.take k)) ++ ⟨#[121]⟩ ++ ba [let8 ss[k].a]) = LV.str (ba (txt (ss.take (k + 1)))) := by rw [hs, hA]; show LV.str (ba (txt (ss.take k)) ++ ba [121] ++ ba [let8 ss[k].a]) = _; rw [ba_app, ba_app, List.append_assoc]
        (repeat ((conv => whnf); first | refine ⟨e, ?_⟩ | refine ⟨e3, ?_⟩ | refine ⟨rfl, ?_⟩))
        trivial
      · have hA : ageL ss[k].b = [] := by unfold ageL; rw [a1, a2]
        ((repeat ((conv => whnf); first | refine brT ?_ | refine brF ?_)); conv => whnf)
        refine ⟨true, by kernel_rfl, ?_⟩
        ((repeat ((conv => whnf); first | refine brT ?_ | refine brF ?_)); conv => whnf)
        refine ⟨_, letters_spec, ?_⟩
        ((repeat ((conv => whnf); first | refine brT ?_ | refine brF ?_)); conv => whnf)
        rw [hw1]
        refine ⟨(ss[k].a - 1).toNat, ss[k].a.toNat, ?_, ?_, ?_, ?_, ?_⟩
        · show ss[k].a - 1 = _; omega
        · show ss[k].a = _; omega
        · omega
        · rw [hsz]; omega
        rw [hx]
        ((repeat ((conv => whnf); first | refine brT ?_ | refine brF ?_)); conv => whnf)
        refine ⟨?_, ?_⟩
        · show (ba (txt (ss.take k))).size + (ba [let8 ss[k].a]).size ≤ _
          rw [ba_size, ba_size]; simp; unfold Go.maxLen; omega
        ((repeat ((conv => whnf); first | refine brT ?_ | refine brF ?_)); conv => whnf)
        refine round_end (k + 1) hlt (by omega) ⟨?_, trivial, rfl, rfl⟩
        have e3 : LV.str (ba (txt (ss.take k)) ++ ba [let8 ss[k].a]) = LV.str (ba (txt (ss.take (k + 1)))) := by rw [hs, hA]; rw [ba_app, List.nil_append]
        (repeat ((conv => whnf); first | refine ⟨e, ?_⟩ | refine ⟨e3, ?_⟩ | refine ⟨rfl, ?_⟩))
        trivial
  · have h3 : k = ss.length := by rw [ltI_f] at h1; omega
    subst h3
    rw [List.take_length]
    ((repeat ((conv => whnf); first | refine brT ?_ | refine brF ?_)); conv => whnf)
    cases ht : txt ss with
    | nil =>
      rw [show eqS (ba []) ⟨#[]⟩ = true from eqS_refl _]
      ((repeat ((conv => whnf); first | refine brT ?_ | refine brF ?_)); conv => whnf)
      refine ⟨?_, List.nodup_nil⟩
      unfold wordB; rw [ht]
      rfl
    | cons a l =>
      rw [ba_ne (by simp)]
      ((repeat ((conv => whnf); first | refine brT ?_ | refine brF ?_)); conv => whnf)
      refine ⟨?_, List.nodup_nil⟩
      unfold wordB; rw [ht]
theorem txt_ne {ss : List Pr} (h : ss ≠ []) : txt ss ≠ [] := by
  cases ss with
  | nil => exact absurd rfl h
  | cons p ss => simp [txt]
theorem wordB_yes {ss : List Pr} (h : ss ≠ []) : wordB ss = ba (txt ss) := by
  unfold wordB
  have := txt_ne h
  cases ht : txt ss with
  | nil => exact absurd ht this
  | cons a l => rfl
def usd : Nat → Bool
  | 0 => false
  | _ + 1 => true
theorem stepsText_h (ss : List Pr) (h8 : ss.length ≤ 8) (hk : ∀ p ∈ ss, okP p) : HSpec env.P 143 [.sl (ss.map Pr.lv)] [] (.str (wordB ss)) [] := by
  refine HSpec_of_code (E := env.x [187, 188] 0) env_ok.x (fn := Try.f143) Try.func143 rfl Try.call143 _ _ _ _ ?_
  have hS : (ss.map Pr.lv).length = ss.length := List.length_map ..
  ((repeat ((conv => whnf); first | refine brT ?_ | refine brF ?_)); conv => whnf)
  intro hp
  rw [hS] at hp ⊢
  ((repeat ((conv => whnf); first | refine brT ?_ | refine brF ?_)); conv => whnf)
  (refine ⟨fun h0 => ?_, fun h0 => ?_⟩ <;> rw [h0])
  · have : ss = [] := List.eq_nil_of_length_eq_zero (by rw [eqI_t] at h0; omega)
    subst this
    ((repeat ((conv => whnf); first | refine brT ?_ | refine brF ?_)); conv => whnf)
    exact ⟨[.str (wordB [])], by simp [tupOf], rfl, .inl ⟨⟨rfl, trivial⟩, trivial, rfl, rfl⟩⟩
  have hne : ss ≠ [] := fun h => by subst h; simp [eqI_f] at h0
  ((repeat ((conv => whnf); first | refine brT ?_ | refine brF ?_)); conv => whnf)
  intro _
  rw [hS]
  ((repeat ((conv => whnf); first | refine brT ?_ | refine brF ?_)); conv => whnf)
  refine loop_ruleR (α := Nat) [.old 0] (fun k => [(11, .int .i64 (k : Int)), (5, .undef), (17, .undef), (20, .undef)]) (fun k => [.bld 173 5 (usd k) (txt (ss.take k))]) (fun k => ss.length - k) (fun k => k ≤ ss.length) 0 (Nat.zero_le _) ?_ ?_
  · refine ⟨?_, ⟨rfl, rfl, trivial⟩, rfl⟩
    ((repeat ((conv => whnf); refine ⟨rfl, rfl, ?_⟩)); trivial)
  intro k hkk
  generalize hK : kk _ = KK
  ((repeat ((conv => whnf); first | refine brT ?_ | refine brF ?_)); conv => whnf)
  (refine ⟨fun h1 => ?_, fun h1 => ?_⟩ <;> rw [h1])
  · have hlt : k < ss.length := by rw [ltI_t] at h1; omega
    have e1 := step_i hlt hp
    have hs := txt_succ hlt
    obtain ⟨o1, o2, o3, o4⟩ := hk ss[k] (List.getElem_mem hlt)
    have htl := txt_len (ss.take k)
    rw [List.length_take] at htl
    have hq : (ss.map Pr.lv)[k]? = some ss[k].lv := by simp [hlt]
    obtain ⟨hj, hget⟩ := let_get o1 o2
    generalize ss[k] = p at hs o1 o2 o3 o4 hq hj hget
    have hw1 : IntKind.i64.wrap (p.a - 1) = p.a - 1 := wrap64 (by omega) (by omega)
    ((repeat ((conv => whnf); first | refine brT ?_ | refine brF ?_)); conv => whnf)
    refine ⟨k, p.lv, rfl, hq, rfl, ?_⟩
    ((repeat ((conv => whnf); first | refine brT ?_ | refine brF ?_)); conv => whnf)
    (refine ⟨fun a1 => ?_, fun a1 => ?_⟩ <;> rw [a1])
    · have hA : ageL p.b = [101] := by unfold ageL; rw [a1]
      ((repeat ((conv => whnf); first | refine brT ?_ | refine brF ?_)); conv => whnf)
      refine ⟨[0], _, _, _, _, writeByte_h (usd k) (txt (ss.take k)) 101 (by omega), rfl, rfl, rfl, trivial, ?_⟩
      ((repeat ((conv => whnf); first | refine brT ?_ | refine brF ?_)); conv => whnf)
      refine ⟨(p.a - 1).toNat, hj, ?_, ?_⟩
      · rw [hw1]; omega
      rw [hget]
      ((repeat ((conv => whnf); first | refine brT ?_ | refine brF ?_)); conv => whnf)
      refine ⟨[0], _, _, _, _, writeByte_h true (txt (ss.take k) ++ [101]) (let8 p.a) (by simp; omega), rfl, rfl, rfl, trivial, ?_⟩
      subst hK
      ((repeat ((conv => whnf); first | refine brT ?_ | refine brF ?_)); conv => whnf)
      have eL : txt (ss.take k) ++ [101] ++ [let8 p.a] = txt (ss.take (k + 1)) := by rw [hs, hA]; simp
      rw [eL]
      refine round_endR [.old 0] (k + 1) hlt (by omega) ⟨?_, ⟨rfl, rfl, trivial⟩, rfl⟩
      ((repeat ((conv => whnf); first | refine ⟨rfl, e1, ?_⟩ | refine ⟨rfl, rfl, ?_⟩)); trivial)
    · ((repeat ((conv => whnf); first | refine brT ?_ | refine brF ?_)); conv => whnf)
      (refine ⟨fun a2 => ?_, fun a2 => ?_⟩ <;> rw [a2])
      · have hA : ageL p.b = [121] := by unfold ageL; rw [a1, a2]
        ((repeat ((conv => whnf); first | refine brT ?_ | refine brF ?_)); conv => whnf)
        refine ⟨[0], _, _, _, _, writeByte_h (usd k) (txt (ss.take k)) 121 (by omega), rfl, rfl, rfl, trivial, ?_⟩
        ((repeat ((conv => whnf); first | refine brT ?_ | refine brF ?_)); conv => whnf)
        refine ⟨(p.a - 1).toNat, hj, ?_, ?_⟩
        · rw [hw1]; omega
        rw [hget]
        ((repeat ((conv => whnf); first | refine brT ?_ | refine brF ?_)); conv => whnf)
        refine ⟨[0], _, _, _, _, writeByte_h true (txt (ss.take k) ++ [121]) (let8 p.a) (by simp; omega), rfl, rfl, rfl, trivial, ?_⟩
        subst hK
        ((repeat ((conv => whnf); first | refine brT ?_ | refine brF ?_)); conv => whnf)
        have eL : txt (ss.take k) ++ [121] ++ [let8 p.a] = txt (ss.take (k + 1)) := by rw [hs, hA]; simp
        rw [eL]
        refine round_endR [.old 0] (k + 1) hlt (by omega) ⟨?_, ⟨rfl, rfl, trivial⟩, rfl⟩
        ((repeat ((conv => whnf); first | refine ⟨rfl, e1, ?_⟩ | refine ⟨rfl, rfl, ?_⟩)); trivial)
      · have hA : ageL p.b = [] := by unfold ageL; rw [a1, a2]
        ((repeat ((conv => whnf); first | refine brT ?_ | refine brF ?_)); conv => whnf)
        refine ⟨(p.a - 1).toNat, hj, ?_, ?_⟩
        · rw [hw1]; omega
        rw [hget]
        ((repeat ((conv => whnf); first | refine brT ?_ | refine brF ?_)); conv => whnf)
        refine ⟨[0], _, _, _, _, writeByte_h (usd k) (txt (ss.take k)) (let8 p.a) (by simp; omega), rfl, rfl, rfl, trivial, ?_⟩
        subst hK
        ((repeat ((conv => whnf); first | refine brT ?_ | refine brF ?_)); conv => whnf)
        have eL : txt (ss.take k) ++ [let8 p.a] = txt (ss.take (k + 1)) := by rw [hs, hA]; simp
        rw [eL]
        refine round_endR [.old 0] (k + 1) hlt (by omega) ⟨?_, ⟨rfl, rfl, trivial⟩, rfl⟩
        ((repeat ((conv => whnf); first | refine ⟨rfl, e1, ?_⟩ | refine ⟨rfl, rfl, ?_⟩)); trivial)
  · have h3 : k = ss.length := by rw [ltI_f] at h1; omega
    subst h3
    subst hK
    rw [List.take_length]
    ((repeat ((conv => whnf); first | refine brT ?_ | refine brF ?_)); conv => whnf)
    refine ⟨[0], _, _, _, _, string_h (usd ss.length) (txt ss) (txt_ne hne), rfl, rfl, rfl, trivial, ?_⟩
    ((repeat ((conv => whnf); first | refine brT ?_ | refine brF ?_)); conv => whnf)
    exact ⟨[.str (wordB ss)], by simp [tupOf], rfl, .inl ⟨⟨by rw [wordB_yes hne]; rfl, trivial⟩, trivial, rfl, rfl⟩⟩
end Go.Proofs.Ytpfipmjmblgjfaa

namespace Go.Proofs.Ytpfipmjmblgjfaa
open Go.Lg Go.RowKit
set_option maxHeartbeats 3200000
set_option maxRecDepth 10000
set_option linter.unusedVariables false
set_option linter.unusedSimpArgs false

theorem stepsText_f (ss : List Pr) (h8 : ss.length ≤ 8) (hk : ∀ p ∈ ss, okP p) : FSpec env.P 143 [.sl (ss.map Pr.lv)] (.str (wordB ss)) :=
  FSpec_of_HSpec (stepsText_h ss h8 hk) (by simp [exW])
def fmtB (e : Int) (ss : List Pr) : ByteArray := match typB e ss with | true => preB e ++ wordB ss | false => ba []
theorem preB_size (e : Int) : (preB e).size ≤ 2 := by
  unfold preB
  split
  · simp [ba_size]
  · split <;> simp [ba_size]
theorem wordB_size (ss : List Pr) : (wordB ss).size ≤ 2 * ss.length + 1 := by
  have := txt_len ss
  unfold wordB
  split
  · simp [ba_size]
  · rw [ba_size]; omega
theorem formatType_spec (e : Int) (ss : List Pr) : FSpec env.P 73 [typLV e ss] (.str (fmtB e ss)) := by
  refine FSpec_of_code env_ok (fn := Try.f73) Try.func73 rfl Try.call73 _ _ ?_
  unfold fmtB
  ((repeat ((conv => whnf); first | refine brT ?_ | refine brF ?_)); conv => whnf)
  refine ⟨_, isType_spec e ss, ?_⟩
  ((repeat ((conv => whnf); first | refine brT ?_ | refine brF ?_)); conv => whnf)
  (refine ⟨fun h => ?_, fun h => ?_⟩ <;> rw [h])
  · rw [notB_t] at h
    rw [h]
    ((repeat ((conv => whnf); first | refine brT ?_ | refine brF ?_)); conv => whnf)
    exact ⟨rfl, List.nodup_nil⟩
  rw [notB_f] at h
  rw [h]
  have h8 : ss.length ≤ 8 := by unfold typB at h; simp only [Bool.and_eq_true, leI_t] at h; omega
  have hk := typB_okP h
  have z1 := preB_size e
  have z2 := wordB_size ss
  have hw := word_spec ss h8 hk
  ((repeat ((conv => whnf); first | refine brT ?_ | refine brF ?_)); conv => whnf)
  refine ⟨true, by kernel_rfl, ?_⟩
  ((repeat ((conv => whnf); first | refine brT ?_ | refine brF ?_)); conv => whnf)
  refine ⟨_, prefix_spec e, ?_⟩
  ((repeat ((conv => whnf); first | refine brT ?_ | refine brF ?_)); conv => whnf)
  refine ⟨_, hw, ?_⟩
  ((repeat ((conv => whnf); first | refine brT ?_ | refine brF ?_)); conv => whnf)
  refine ⟨by unfold Go.maxLen; omega, ?_⟩
  ((repeat ((conv => whnf); first | refine brT ?_ | refine brF ?_)); conv => whnf)
  exact ⟨rfl, List.nodup_nil⟩
theorem formatType_impl (e : Int) (ss : List Pr) : FSpec env.P 74 [typLV e ss] (.str (fmtB e ss)) := by
  refine FSpec_of_code env_ok (fn := Try.f74) Try.func74 rfl Try.call74 _ _ ?_
  unfold fmtB
  ((repeat ((conv => whnf); first | refine brT ?_ | refine brF ?_)); conv => whnf)
  refine ⟨_, isType_impl e ss, ?_⟩
  ((repeat ((conv => whnf); first | refine brT ?_ | refine brF ?_)); conv => whnf)
  (refine ⟨fun h => ?_, fun h => ?_⟩ <;> rw [h])
  · rw [notB_t] at h
    rw [h]
    ((repeat ((conv => whnf); first | refine brT ?_ | refine brF ?_)); conv => whnf)
    exact ⟨rfl, List.nodup_nil⟩
  rw [notB_f] at h
  rw [h]
  have h8 : ss.length ≤ 8 := by unfold typB at h; simp only [Bool.and_eq_true, leI_t] at h; omega
  have hk := typB_okP h
  have z1 := preB_size e
  have z2 := wordB_size ss
  have hw := stepsText_f ss h8 hk
  ((repeat ((conv => whnf); first | refine brT ?_ | refine brF ?_)); conv => whnf)
  refine ⟨true, by kernel_rfl, ?_⟩
  ((repeat ((conv => whnf); first | refine brT ?_ | refine brF ?_)); conv => whnf)
  refine ⟨_, egoText_spec e, ?_⟩
  ((repeat ((conv => whnf); first | refine brT ?_ | refine brF ?_)); conv => whnf)
  refine ⟨_, hw, ?_⟩
  ((repeat ((conv => whnf); first | refine brT ?_ | refine brF ?_)); conv => whnf)
  refine ⟨by unfold Go.maxLen; omega, ?_⟩
  ((repeat ((conv => whnf); first | refine brT ?_ | refine brF ?_)); conv => whnf)
  exact ⟨rfl, List.nodup_nil⟩
theorem law_formatType (e : Int) (ss : List Pr) (hl : ss.length ≤ Go.maxLen) : FSpec env.P 17 [typLV e ss] (.bool true) := by
  refine FSpec_of_code (E := env.x [51] 0) env_ok.x (fn := Try.f17) Try.func17 rfl Try.call17 _ _ ?_
  have hS := formatType_spec e ss
  have hI := formatType_impl e ss
  generalize fmtB e ss = b at hS hI
  ((repeat ((conv => whnf); first | refine brT ?_ | refine brF ?_)); conv => whnf)
  refine ⟨_, szKinType_spec e ss 1048576, ?_⟩
  by_cases h2 : 0 ≤ szT 1048576 ss.length
  rotate_left
  · ((repeat ((conv => whnf); first | refine brT ?_ | refine brF ?_)); conv => whnf)
    rw [show ltI (szT 1048576 ss.length) 0 = true by rw [ltI_t]; omega]
    ((repeat ((conv => whnf); first | refine brT ?_ | refine brF ?_)); conv => whnf)
    exact fin rfl
  obtain ⟨q1, q2, hf, hb, -⟩ := szT_ok (by omega) (by omega) hl h2
  ((repeat ((conv => whnf); first | refine brT ?_ | refine brF ?_)); conv => whnf)
  rw [hf]
  ((repeat ((conv => whnf); first | refine brT ?_ | refine brF ?_)); conv => whnf)
  refine ⟨[], _, _, _, _, toKinType_h e ss (by omega), rfl, rfl, rfl, trivial, ?_⟩
  ((repeat ((conv => whnf); first | refine brT ?_ | refine brF ?_)); conv => whnf)
  refine ⟨rfl, ?_⟩
  ((repeat ((conv => whnf); first | refine brT ?_ | refine brF ?_)); conv => whnf)
  refine ⟨_, hS, ?_⟩
  ((repeat ((conv => whnf); first | refine brT ?_ | refine brF ?_)); conv => whnf)
  refine ⟨[], _, _, _, _, toKinType_h e ss (by omega), rfl, rfl, rfl, trivial, ?_⟩
  ((repeat ((conv => whnf); first | refine brT ?_ | refine brF ?_)); conv => whnf)
  refine ⟨rfl, ?_⟩
  ((repeat ((conv => whnf); first | refine brT ?_ | refine brF ?_)); conv => whnf)
  refine ⟨_, hI, ?_⟩
  ((repeat ((conv => whnf); first | refine brT ?_ | refine brF ?_)); conv => whnf)
  rw [eqS_refl]
  rw [show notB true = false by simp [notB]]
  ((repeat ((conv => whnf); first | refine brT ?_ | refine brF ?_)); conv => whnf)
  refine ⟨true, by kernel_rfl, ?_⟩
  ((repeat ((conv => whnf); first | refine brT ?_ | refine brF ?_)); conv => whnf)
  refine ⟨_, toKinType_f e ss (by omega), ?_⟩
  ((repeat ((conv => whnf); first | refine brT ?_ | refine brF ?_)); conv => whnf)
  refine ⟨rfl, ?_⟩
  ((repeat ((conv => whnf); first | refine brT ?_ | refine brF ?_)); conv => whnf)
  refine ⟨_, eqKinType_spec e ss e ss, ?_⟩
  rw [eqTyp_refl]
  ((repeat ((conv => whnf); first | refine brT ?_ | refine brF ?_)); conv => whnf)
  rw [show notB true = false by simp [notB]]
  ((repeat ((conv => whnf); first | refine brT ?_ | refine brF ?_)); conv => whnf)
  exact fin rfl
end Go.Proofs.Ytpfipmjmblgjfaa
