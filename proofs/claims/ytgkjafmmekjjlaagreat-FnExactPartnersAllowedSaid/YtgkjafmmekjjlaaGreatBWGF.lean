/- Contracts of functions of the program and of its model, told over readings. -/
import Derived.Test.YtgkjafmmekjjlaaGreatBWGE
import Derived.Test.YtgkjafmmekjjlaaGreatBWGD
import Derived.Test.YtgkjafmmekjjlaaGreatBLgCU
namespace Go.Proofs.YtgkjafmmekjjlaaGreat
open Go.Lg
set_option maxHeartbeats 1600000
set_option maxRecDepth 10000
set_option linter.unusedVariables false
set_option linter.unusedSimpArgs false

def marriedL (ps : List Per) (us : List Uni) (p y : Int) : List Int := match hasP ps us p with
  | true => othersTo (keepAt ps y) p us us.length
  | false => []
theorem other_eq2 (keep : Uni → Bool) (p : Int) (u : Uni) : otherL keep p u = match otherB p u && keep u with | true => [otherV p u] | false => [] := by
  unfold otherL otherB otherV
  rw [eqI_comm p u.husband, eqI_comm p u.wife]
  cases keep u <;> cases eqI u.husband p <;> cases eqI u.wife p <;> rfl
theorem partnersAt_h (ps : List Per) (us : List Uni) (p y : Int) (hok : famOk ps us = true) : HSpec env.P 153 [famLV ps us, .int .i64 p, .int .i64 y] [] (.hs 0 ((othersTo (keepAt ps y) p us us.length).map intLV).length) [.arr 3 1 ((othersTo (keepAt ps y) p us us.length).map intLV)] := by
  refine HSpec_of_code (E := env.x [159] 0) env_ok.x (fn := Tryz.f153) Tryz.func153 rfl Tryz.call153 _ _ _ _ ?_
  ((repeat ((conv => whnf); first | refine brT ?_ | refine brF ?_)); conv => whnf)
  refine ⟨[0, 1], _, _, _, _, partnersInAt_h (keepAt ps y) ps us p y (famOk_parts hok).2.1 (fun k hk => keepAt_spec ps us y us[k] (uni_of hok hk).1), rfl, rfl, rfl, trivial, ?_⟩
  ((repeat ((conv => whnf); first | refine brT ?_ | refine brF ?_)); conv => whnf)
  refine ⟨[.hs 0 _], rfl, rfl, .inr ⟨[.old 2], ⟨rfl, rfl, trivial⟩, ⟨rfl, rfl, trivial⟩, rfl⟩⟩
theorem marriedAt_spec (ps : List Per) (us : List Uni) (p y : Int) : FSpec env.P 78 [famLV ps us, .int .i64 p, .int .i64 y] (.own 3 1 ((marriedL ps us p y).map intLV)) := by
  refine FSpec_of_code env_ok (fn := Tryz.f78) Tryz.func78 rfl Tryz.call78 _ _ ?_
  ((repeat ((conv => whnf); first | refine brT ?_ | refine brF ?_)); conv => whnf)
  refine ⟨_, l1Has_spec ps us p, ?_⟩
  ((repeat ((conv => whnf); first | refine brT ?_ | refine brF ?_)); conv => whnf)
  (refine ⟨fun h => ?_, fun h => ?_⟩ <;> rw [h])
  · rw [notB_t] at h
    have e : marriedL ps us p y = [] := by unfold marriedL; rw [h]
    rw [e]
    ((repeat ((conv => whnf); first | refine brT ?_ | refine brF ?_)); conv => whnf)
    exact ⟨by decide, rfl, List.nodup_nil⟩
  · rw [notB_f] at h
    obtain ⟨p0, pl, hok⟩ := hasP_lt h
    have hu := (famOk_parts hok).2.1
    have e : marriedL ps us p y = othersTo (keepAt ps y) p us us.length := by unfold marriedL; rw [h]
    rw [e]
    ((repeat ((conv => whnf); first | refine brT ?_ | refine brF ?_)); conv => whnf)
    intro hn
    ((repeat ((conv => whnf); first | refine brT ?_ | refine brF ?_)); conv => whnf)
    refine loop_rule (α := Nat) (fun k => [(18, .undef), (22, .int .i64 (k : Int)), (7, .hs 1 ((othersTo (keepAt ps y) p us k).map intLV).length)]) (fun k => [.box (famLV ps us), .arr 3 1 ((othersTo (keepAt ps y) p us k).map intLV)])
      (fun k => us.length - k) (fun k => k ≤ us.length) 0 (Nat.zero_le _) ?_ ?_
    · refine ⟨?_, ⟨rfl, rfl, trivial⟩, rfl, rfl⟩
      ((repeat ((conv => whnf); refine ⟨rfl, ?_⟩)); trivial)
    intro k hk0
    ((repeat ((conv => whnf); first | refine brT ?_ | refine brF ?_)); conv => whnf)
    (refine ⟨fun h1 => ?_, fun h1 => ?_⟩ <;> rw [h1])
    · have hlt : k < us.length := by rw [ltI_t] at h1; simp at h1; omega
      have hs := othersTo_succ (keepAt ps y) p us hlt
      have hl := othersTo_len (keepAt ps y) p us k
      have hl1 := othersTo_len (keepAt ps y) p us (k + 1)
      have e : LV.int .i64 (IntKind.i64.wrap ((k : Int) + 1)) = LV.int .i64 ((k + 1 : Nat) : Int) := step_i hlt (by unfold Go.maxLen; omega)
      obtain ⟨hin, hy⟩ := uni_of hok hlt
      have hend := l1End_spec ps us us[k] hin hy
      ((repeat ((conv => whnf); first | refine brT ?_ | refine brF ?_)); conv => whnf)
      refine ⟨k, us[k].lv, rfl, by simp [hlt], rfl, ?_⟩
      ((repeat ((conv => whnf); first | refine brT ?_ | refine brF ?_)); conv => whnf)
      refine ⟨_, l1Other_spec us[k] p, ?_⟩
      generalize us[k] = u at hs hend
      cases he : endO ps u <;> rw [he] at hend
      all_goals
        ((repeat' (((repeat ((conv => whnf); first | refine brT ?_ | refine brF ?_)); conv => whnf); first | (refine And.intro ?_ ?_ <;> (intro h; rw [h]; revert h; intro _)) | (refine Exists.intro true (And.intro (a := drawB _ _ = true) (by kernel_rfl) ?_)) | (refine Exists.intro _ (And.intro (hend) ?_)))); all_goals ((repeat ((conv => whnf); first | refine brT ?_ | refine brF ?_)); conv => whnf))
      all_goals
        first
        | (have e1 : othersTo (keepAt ps y) p us (k + 1) = othersTo (keepAt ps y) p us k ++ [otherV p u] := by { rw [hs, other_eq2]; simp_all [keepAt, lasts, notB] }
           have e2 : ((othersTo (keepAt ps y) p us k).map intLV ++ [LV.int .i64 (otherV p u)]) = (othersTo (keepAt ps y) p us (k + 1)).map intLV := by { rw [e1, List.map_append]; rfl }
           have e3 : LV.hs 1 ((othersTo (keepAt ps y) p us k).map intLV ++ [LV.int .i64 (otherV p u)]).length = LV.hs 1 ((othersTo (keepAt ps y) p us (k + 1)).map intLV).length := by rw [e2]
           have m1 : ((othersTo (keepAt ps y) p us k).map intLV ++ [LV.int .i64 (otherV p u)]).length ≤ Go.maxLen := by { rw [e2]; unfold Go.maxLen; simp; omega }
           have m2 : ((othersTo (keepAt ps y) p us k).map intLV ++ [LV.int .i64 (otherV p u)]).length * 8 ≤ 140737488355328 := by { rw [e2]; simp; omega }
           refine ⟨rfl, rfl, m1, m2, ?_⟩
           ((repeat ((conv => whnf); first | refine brT ?_ | refine brF ?_)); conv => whnf)
           refine round_endR [.old 0, .old 4] (k + 1) hlt (by omega) ⟨?_, ⟨rfl, rfl, rfl, congrArg (Blk.arr 3 1) e2, trivial⟩, rfl⟩
           repeat ((conv => whnf); first | refine ⟨rfl, e, ?_⟩ | refine ⟨rfl, e3, ?_⟩ | refine ⟨rfl, rfl, ?_⟩)
           trivial)
        | (have e1 : othersTo (keepAt ps y) p us (k + 1) = othersTo (keepAt ps y) p us k := by { rw [hs, other_eq2]; simp_all [keepAt, lasts, notB] }
           have e3 : LV.hs 1 ((othersTo (keepAt ps y) p us k).map intLV).length = LV.hs 1 ((othersTo (keepAt ps y) p us (k + 1)).map intLV).length := by rw [e1]
           refine round_endR [.old 0, .old 1] (k + 1) hlt (by omega) ⟨?_, ⟨rfl, rfl, rfl, congrArg (Blk.arr 3 1) (by rw [e1]), trivial⟩, rfl⟩
           repeat ((conv => whnf); first | refine ⟨rfl, e, ?_⟩ | refine ⟨rfl, e3, ?_⟩ | refine ⟨rfl, rfl, ?_⟩)
           trivial)
    · have h3 : k = us.length := by rw [ltI_f] at h1; simp at h1; omega
      subst h3
      ((repeat ((conv => whnf); first | refine brT ?_ | refine brF ?_)); conv => whnf)
      exact ⟨rfl, rfl, rfl, rfl, by simp⟩

end Go.Proofs.YtgkjafmmekjjlaaGreat

namespace Go.Proofs.YtgkjafmmekjjlaaGreat
open Go.Lg Go.Pm
set_option maxHeartbeats 6400000
set_option maxRecDepth 10000
set_option linter.unusedVariables false
set_option linter.unusedSimpArgs false

/-! ### Classes that are given -/
theorem any_notB {α : Type} (q : α → Bool) : ∀ xs : List α, notB (xs.any fun x => notB (q x)) = xs.all q
  | [] => by simp [notB]
  | x :: xs => by
    rw [List.any_cons, List.all_cons, ← any_notB q xs]
    cases q x <;> simp [notB]
end Go.Proofs.YtgkjafmmekjjlaaGreat

namespace Go.Proofs.YtgkjafmmekjjlaaGreat
open Go.Lg
set_option maxHeartbeats 3200000
set_option maxRecDepth 10000
set_option linter.unusedVariables false
set_option linter.unusedSimpArgs false

/-! ### Laws of marriage -/
structure Lw where
  degree : Int
  canon : Int
  affinity : Int
  age : Int
  wives : Int
  husbands : Int
  patri : Bool
  matri : Bool
def Lw.lv (l : Lw) : LV := .st [.int .i64 l.degree, .int .i64 l.canon, .int .i64 l.affinity, .int .i64 l.age, .int .i64 l.wives, .int .i64 l.husbands, .bool l.patri, .bool l.matri]
/-- A setting: a number between two others, or a choice. -/
inductive Sg where
  | num (v lo hi : Int)
  | cho (b : Bool)
def Sg.lv : Sg → LV
  | .num v lo hi => .ifc 162 [.ref (.int .i64 v), .int .i64 lo, .int .i64 hi]
  | .cho b => .ifc 165 [.ref (.bool b)]
def Sg.ok : Sg → Bool
  | .num v lo hi => leI lo v && leI v hi
  | .cho _ => true
def clLV (c : ByteArray × Sg) : LV := .st [.str c.1, c.2.lv]
def lawCl (l : Lw) : List (ByteArray × Sg) :=
  [(⟨#[100, 101, 103, 114, 101, 101]⟩, .num l.degree 0 20), (⟨#[99, 97, 110, 111, 110]⟩, .num l.canon 0 10), (⟨#[97, 102, 102, 105, 110, 105, 116, 121]⟩, .num l.affinity 0 20), (⟨#[97, 103, 101]⟩, .num l.age 0 99),
   (⟨#[119, 105, 118, 101, 115]⟩, .num l.wives 1 9), (⟨#[104, 117, 115, 98, 97, 110, 100, 115]⟩, .num l.husbands 1 9), (⟨#[112, 97, 116, 114, 105, 108, 105, 110, 101]⟩, .cho l.patri), (⟨#[109, 97, 116, 114, 105, 108, 105, 110, 101]⟩, .cho l.matri)]
theorem numOk_spec (v lo hi : Int) : FSpec env.P 204 [.st [.ref (.int .i64 v), .int .i64 lo, .int .i64 hi]] (.bool (leI lo v && leI v hi)) := by
  refine FSpec_of_code env_ok (fn := Tryz.f204) Tryz.func204 rfl Tryz.call204 _ _ ?_
  ((repeat ((conv => whnf); first | refine brT ?_ | refine brF ?_)); conv => whnf)
  refine ⟨true, by kernel_rfl, ?_⟩
  ((repeat ((conv => whnf); first | refine brT ?_ | refine brF ?_)); conv => whnf)
  (refine ⟨fun h => ?_, fun h => ?_⟩ <;> rw [h])
  · ((repeat ((conv => whnf); first | refine brT ?_ | refine brF ?_)); conv => whnf)
    exact ⟨by rfl, List.nodup_nil⟩
  · ((repeat ((conv => whnf); first | refine brT ?_ | refine brF ?_)); conv => whnf)
    exact ⟨by rfl, List.nodup_nil⟩
theorem choOk_spec (b : Bool) : FSpec env.P 207 [.st [.ref (.bool b)]] (.bool true) := by
  refine FSpec_of_code env_ok (fn := Tryz.f207) Tryz.func207 rfl Tryz.call207 _ _ ?_
  ((repeat ((conv => whnf); first | refine brT ?_ | refine brF ?_)); conv => whnf)
  exact fin rfl
theorem isLaw1_spec (c : ByteArray × Sg) : FSpec env.P 89 [clLV c] (.bool (notB c.2.ok)) := by
  refine FSpec_of_code env_ok (fn := Tryz.f89) Tryz.func89 rfl Tryz.call89 _ _ ?_
  obtain ⟨s, g⟩ := c
  cases g with
  | num v lo hi =>
    ((repeat ((conv => whnf); first | refine brT ?_ | refine brF ?_)); conv => whnf)
    refine ⟨0, _, rfl, _, numOk_spec v lo hi, ?_⟩
    ((repeat ((conv => whnf); first | refine brT ?_ | refine brF ?_)); conv => whnf)
    exact fin rfl
  | cho b =>
    ((repeat ((conv => whnf); first | refine brT ?_ | refine brF ?_)); conv => whnf)
    refine ⟨1, _, rfl, _, choOk_spec b, ?_⟩
    ((repeat ((conv => whnf); first | refine brT ?_ | refine brF ?_)); conv => whnf)
    exact fin rfl
theorem clausesOf_spec (l : Lw) : FSpec env.P 88 [.ref l.lv] (.own 127 2 ((lawCl l).map clLV)) := by
  obtain ⟨d, c, a, g, w, h, p, m⟩ := l
  show FSpec env.P 88 [.ref (.st [.int .i64 d, .int .i64 c, .int .i64 a, .int .i64 g, .int .i64 w, .int .i64 h, .bool p, .bool m])] _
  refine FSpec_of_code env_ok (fn := Tryz.f88) Tryz.func88 rfl Tryz.call88 _ _ ?_
  ((repeat ((conv => whnf); first | refine brT ?_ | refine brF ?_)); conv => whnf)
  refine ⟨false, 48, by kernel_rfl, ?_⟩
  ((repeat ((conv => whnf); first | refine brT ?_ | refine brF ?_)); conv => whnf)
  exact ⟨rfl, rfl, rfl, rfl, by simp⟩
end Go.Proofs.YtgkjafmmekjjlaaGreat


namespace Go.Proofs.YtgkjafmmekjjlaaGreat
open Go.Lg
set_option maxHeartbeats 3200000
set_option maxRecDepth 10000
set_option linter.unusedVariables false
set_option linter.unusedSimpArgs false

theorem indexCl (F : Nat) (q : ByteArray × Sg → Bool) (xs : List (ByteArray × Sg)) (hF : ∀ x, FSpec env.P F [clLV x] (.bool (q x))) :
    FSpec env.P 116 [.sl (xs.map clLV), .clos F []] (.int .i64 (idxFrom q 0 xs)) := by
  refine FSpec_of_code env_ok (fn := Tryz.f116) Tryz.func116 rfl Tryz.call116 _ _ ?_
  ((repeat ((conv => whnf); first | refine brT ?_ | refine brF ?_)); conv => whnf)
  intro hp
  have hp' : xs.length ≤ Go.maxLen := by simpa using hp
  ((repeat ((conv => whnf); first | refine brT ?_ | refine brF ?_)); conv => whnf)
  refine loop_rule (α := Nat) (fun k => [(8, .int .i64 (k : Int))]) (fun k => []) (fun k => xs.length - k) (fun k => k ≤ xs.length ∧ idxFrom q k (xs.drop k) = idxFrom q 0 xs) 0 ⟨Nat.zero_le _, by simp⟩ ?_ ?_
  · refine ⟨?_, trivial, rfl, rfl⟩
    ((repeat ((conv => whnf); refine ⟨rfl, ?_⟩)); trivial)
  rintro k ⟨hk, hf⟩
  ((repeat ((conv => whnf); first | refine brT ?_ | refine brF ?_)); conv => whnf)
  (refine ⟨fun h1 => ?_, fun h1 => ?_⟩ <;> rw [h1])
  · have hlt : k < xs.length := by rw [ltI_t] at h1; simp at h1; omega
    rw [List.drop_eq_getElem_cons hlt] at hf
    simp only [idxFrom] at hf
    have hg : (xs.map clLV)[k]? = some (clLV xs[k]) := by simp [hlt]
    generalize xs[k] = x at hf hg
    have hx := hF x
    have e := step_i hlt hp'
    obtain ⟨s, g⟩ := x
    cases g
    all_goals
      ((repeat ((conv => whnf); first | refine brT ?_ | refine brF ?_)); conv => whnf)
      refine ⟨k, _, rfl, hg, rfl, ?_⟩
      ((repeat ((conv => whnf); first | refine brT ?_ | refine brF ?_)); conv => whnf)
      refine ⟨_, hx, ?_⟩
      ((repeat ((conv => whnf); first | refine brT ?_ | refine brF ?_)); conv => whnf)
      (refine ⟨fun h2 => ?_, fun h2 => ?_⟩ <;> rw [h2])
      · rw [h2] at hf
        ((repeat ((conv => whnf); first | refine brT ?_ | refine brF ?_)); conv => whnf)
        exact ⟨rfl, by rw [← hf], List.nodup_nil⟩
      · rw [h2] at hf
        ((repeat ((conv => whnf); first | refine brT ?_ | refine brF ?_)); conv => whnf)
        refine round_end (k + 1) ⟨hlt, hf⟩ (by omega) ⟨?_, trivial, rfl, rfl⟩
        ((repeat ((conv => whnf); first | refine ⟨e, ?_⟩ | refine ⟨rfl, ?_⟩)); trivial)
  · have h3 : xs.length ≤ k := by rw [ltI_f] at h1; simp at h1; omega
    rw [List.drop_eq_nil_of_le h3] at hf
    ((repeat ((conv => whnf); first | refine brT ?_ | refine brF ?_)); conv => whnf)
    exact ⟨rfl, by rw [← hf]; rfl, List.nodup_nil⟩
theorem containsCl (F : Nat) (q : ByteArray × Sg → Bool) (xs : List (ByteArray × Sg)) (hF : ∀ x, FSpec env.P F [clLV x] (.bool (q x))) :
    FSpec env.P 87 [.sl (xs.map clLV), .clos F []] (.bool (xs.any q)) := by
  refine FSpec_of_code env_ok (fn := Tryz.f87) Tryz.func87 rfl Tryz.call87 _ _ ?_
  ((repeat ((conv => whnf); first | refine brT ?_ | refine brF ?_)); conv => whnf)
  refine ⟨_, indexCl F q xs hF, ?_⟩
  ((repeat ((conv => whnf); first | refine brT ?_ | refine brF ?_)); conv => whnf)
  exact fin (idxFrom_ge _ _ _)
def inB (x lo hi : Int) : Bool := leI lo x && leI x hi
def lawOk (l : Lw) : Bool := inB l.degree 0 20 && (inB l.canon 0 10 && (inB l.affinity 0 20 && (inB l.age 0 99 && (inB l.wives 1 9 && inB l.husbands 1 9))))
theorem lawCl_ok (l : Lw) : (lawCl l).all (fun c => c.2.ok) = lawOk l := by
  simp [lawCl, Sg.ok, lawOk, inB]
theorem isLaw_impl (l : Lw) : FSpec env.P 48 [l.lv] (.bool (lawOk l)) := by
  have hc := clausesOf_spec l
  have hk := containsCl 89 (fun c => notB c.2.ok) (lawCl l) isLaw1_spec
  rw [← lawCl_ok, ← any_notB]
  generalize (lawCl l).any (fun c => notB c.2.ok) = b at hk ⊢
  generalize (lawCl l).map clLV = L at hc hk
  obtain ⟨d, c, a, g, w, h, p, m⟩ := l
  refine FSpec_of_code (E := { env with fb := [36] }) (env_ok.fbs _) (fn := Tryz.f48) Tryz.func48 rfl Tryz.call48 _ _ ?_
  ((repeat ((conv => whnf); first | refine brT ?_ | refine brF ?_)); conv => whnf)
  refine ⟨_, hc, ?_⟩
  ((repeat ((conv => whnf); first | refine brT ?_ | refine brF ?_)); conv => whnf)
  refine ⟨_, hk, ?_⟩
  ((repeat ((conv => whnf); first | refine brT ?_ | refine brF ?_)); conv => whnf)
  exact fin rfl
theorem isLaw_spec (l : Lw) : FSpec env.P 42 [l.lv] (.bool (lawOk l)) := by
  obtain ⟨d, c, a, g, w, h, p, m⟩ := l
  refine FSpec_of_code env_ok (fn := Tryz.f42) Tryz.func42 rfl Tryz.call42 _ _ ?_
  ((repeat' (((repeat ((conv => whnf); first | refine brT ?_ | refine brF ?_)); conv => whnf); first | (refine And.intro ?_ ?_ <;> (intro h; rw [h]; revert h; intro _)) | (refine Exists.intro true (And.intro (a := drawB _ _ = true) (by kernel_rfl) ?_)) | (refine Exists.intro _ (And.intro (l1In_spec _ _ _) ?_)))); all_goals ((repeat ((conv => whnf); first | refine brT ?_ | refine brF ?_)); conv => whnf))
  all_goals (refine fin ?_; simp_all [lawOk, inB])
theorem toLaw_spec (l : Lw) : FSpec env.P 12 [l.lv] l.lv := by
  obtain ⟨d, c, a, g, w, h, p, m⟩ := l
  refine FSpec_of_code env_ok (fn := Tryz.f12) Tryz.func12 rfl Tryz.call12 _ _ ?_
  ((repeat ((conv => whnf); first | refine brT ?_ | refine brF ?_)); conv => whnf)
  refine ⟨_, rfl, rfl, ?_⟩
  simp [Lw.lv, exW, exsW]
end Go.Proofs.YtgkjafmmekjjlaaGreat


namespace Go.Proofs.YtgkjafmmekjjlaaGreat
open Go.Lg Go.Pm
set_option maxHeartbeats 3200000
set_option maxRecDepth 10000
set_option linter.unusedVariables false
set_option linter.unusedSimpArgs false

/-! ### What stands against a match: the program's side -/
def cLV (l : Lw) (ps : List Per) (us : List Uni) (F M : List Int) : LV := .st [l.lv, famLV ps us, upL ps, rowSl F, rowSl M]
def mLV (a b y : Int) : LV := .st [.int .i64 a, .int .i64 b, .int .i64 y]
theorem per_get {ps : List Per} {a : Nat} (h : a < ps.length) : (ps.map Per.lv)[a]? = some ps[a].lv := by
  rw [List.getElem?_map, List.getElem?_eq_getElem h]; rfl
theorem courtOf_spec (l : Lw) (ps : List Per) (us : List Uni) (hf : famOk ps us = true) :
    FSpec env.P 50 [famLV ps us, l.lv] (cLV l ps us (fos ps 1) (fos ps 2)) := by
  have h1 := climbs_f ps us (fam_40 hf) (fam_pi hf) (fam_sh hf)
  have h2 := foundersOf_f ps us 1 (fam_40 hf) (fam_pi hf)
  have h3 := foundersOf_f ps us 2 (fam_40 hf) (fam_pi hf)
  obtain ⟨d, c, aa, g, w, h, p, m⟩ := l
  generalize fos ps 1 = F at h2 ⊢
  generalize fos ps 2 = M at h3 ⊢
  unfold cLV upL
  refine FSpec_of_code env_ok (fn := Tryz.f50) Tryz.func50 rfl Tryz.call50 _ _ ?_
  ((repeat ((conv => whnf); first | refine brT ?_ | refine brF ?_)); conv => whnf)
  refine ⟨true, by kernel_rfl, ?_⟩
  ((repeat ((conv => whnf); first | refine brT ?_ | refine brF ?_)); conv => whnf)
  refine ⟨_, h1, ?_⟩
  ((repeat ((conv => whnf); first | refine brT ?_ | refine brF ?_)); conv => whnf)
  refine ⟨_, h2, ?_⟩
  ((repeat ((conv => whnf); first | refine brT ?_ | refine brF ?_)); conv => whnf)
  refine ⟨_, h3, ?_⟩
  ((repeat ((conv => whnf); first | refine brT ?_ | refine brF ?_)); conv => whnf)
  refine ⟨_, rfl, rfl, ?_⟩
  simp [Lw.lv, famLV, rowSl, rowOw, exW, exsW, dms_map, dm]
theorem wrongSex_spec (l : Lw) (ps : List Per) (us : List Uni) (F M : List Int) (a b : Nat) (y : Int) (ha : a < ps.length) (hb : b < ps.length) :
    FSpec env.P 120 [cLV l ps us F M, mLV a b y] (.bool (notB (eqI ps[a].sex 1) || notB (eqI ps[b].sex 2))) := by
  have h1 := per_get ha
  have h2 := per_get hb
  obtain ⟨d, c, aa, g, w, h, p, m⟩ := l
  unfold cLV upL
  generalize ps[a] = x at h1 ⊢
  generalize ps[b] = z at h2 ⊢
  refine FSpec_of_code env_ok (fn := Tryz.f120) Tryz.func120 rfl Tryz.call120 _ _ ?_
  ((repeat ((conv => whnf); first | refine brT ?_ | refine brF ?_)); conv => whnf)
  refine ⟨a, x.lv, rfl, h1, rfl, ?_⟩
  ((repeat ((conv => whnf); first | refine brT ?_ | refine brF ?_)); conv => whnf)
  (refine ⟨fun h => ?_, fun h => ?_⟩ <;> rw [h])
  · ((repeat ((conv => whnf); first | refine brT ?_ | refine brF ?_)); conv => whnf)
    exact fin rfl
  · ((repeat ((conv => whnf); first | refine brT ?_ | refine brF ?_)); conv => whnf)
    refine ⟨b, z.lv, rfl, h2, rfl, ?_⟩
    ((repeat ((conv => whnf); first | refine brT ?_ | refine brF ?_)); conv => whnf)
    exact fin rfl
theorem isForOne_spec (C m' : LV) (l : Lw) (ps : List Per) (us : List Uni) (F M : List Int) (a b : Nat) (y : Int) (ha : a < ps.length) (hb : b < ps.length) (G : Nat) (q : Per → Bool)
    (hC : ∀ x, FSpec env.P G [x.lv, .ref C] (.bool (q x))) :
    FSpec env.P 150 [cLV l ps us F M, mLV a b y, .clos G [.ref C]] (.bool (q ps[a] || q ps[b])) := by
  have h1 := per_get ha
  have h2 := per_get hb
  obtain ⟨d, c, aa, g, w, h, p, m⟩ := l
  unfold cLV upL
  generalize ps[a] = x at h1 ⊢
  generalize ps[b] = z at h2 ⊢
  refine FSpec_of_code env_ok (fn := Tryz.f150) Tryz.func150 rfl Tryz.call150 _ _ ?_
  ((repeat ((conv => whnf); first | refine brT ?_ | refine brF ?_)); conv => whnf)
  refine ⟨a, x.lv, rfl, h1, rfl, ?_⟩
  ((repeat ((conv => whnf); first | refine brT ?_ | refine brF ?_)); conv => whnf)
  refine ⟨_, hC x, ?_⟩
  ((repeat ((conv => whnf); first | refine brT ?_ | refine brF ?_)); conv => whnf)
  (refine ⟨fun h => ?_, fun h => ?_⟩ <;> rw [h])
  · ((repeat ((conv => whnf); first | refine brT ?_ | refine brF ?_)); conv => whnf)
    exact fin rfl
  · ((repeat ((conv => whnf); first | refine brT ?_ | refine brF ?_)); conv => whnf)
    refine ⟨b, z.lv, rfl, h2, rfl, ?_⟩
    ((repeat ((conv => whnf); first | refine brT ?_ | refine brF ?_)); conv => whnf)
    refine ⟨_, hC z, ?_⟩
    ((repeat ((conv => whnf); first | refine brT ?_ | refine brF ?_)); conv => whnf)
    exact fin rfl
theorem isForOne2_spec (C C' : LV) (l : Lw) (ps : List Per) (us : List Uni) (F M : List Int) (a b : Nat) (y : Int) (ha : a < ps.length) (hb : b < ps.length) (G : Nat) (q : Per → Bool)
    (hC : ∀ x, FSpec env.P G [x.lv, .ref C, .ref C'] (.bool (q x))) :
    FSpec env.P 150 [cLV l ps us F M, mLV a b y, .clos G [.ref C, .ref C']] (.bool (q ps[a] || q ps[b])) := by
  have h1 := per_get ha
  have h2 := per_get hb
  obtain ⟨d, c, aa, g, w, h, p, m⟩ := l
  unfold cLV upL
  generalize ps[a] = x at h1 ⊢
  generalize ps[b] = z at h2 ⊢
  refine FSpec_of_code env_ok (fn := Tryz.f150) Tryz.func150 rfl Tryz.call150 _ _ ?_
  ((repeat ((conv => whnf); first | refine brT ?_ | refine brF ?_)); conv => whnf)
  refine ⟨a, x.lv, rfl, h1, rfl, ?_⟩
  ((repeat ((conv => whnf); first | refine brT ?_ | refine brF ?_)); conv => whnf)
  refine ⟨_, hC x, ?_⟩
  ((repeat ((conv => whnf); first | refine brT ?_ | refine brF ?_)); conv => whnf)
  (refine ⟨fun h => ?_, fun h => ?_⟩ <;> rw [h])
  · ((repeat ((conv => whnf); first | refine brT ?_ | refine brF ?_)); conv => whnf)
    exact fin rfl
  · ((repeat ((conv => whnf); first | refine brT ?_ | refine brF ?_)); conv => whnf)
    refine ⟨b, z.lv, rfl, h2, rfl, ?_⟩
    ((repeat ((conv => whnf); first | refine brT ?_ | refine brF ?_)); conv => whnf)
    refine ⟨_, hC z, ?_⟩
    ((repeat ((conv => whnf); first | refine brT ?_ | refine brF ?_)); conv => whnf)
    exact fin rfl
def outL (y : Int) (p : Per) : Bool := ltI y p.born || notB (livedTo p y)
def earlyL (l : Lw) (y : Int) (p : Per) : Bool := ltI y (IntKind.i64.wrap (p.born + l.age))
theorem out1_spec (a b y : Int) (p : Per) : FSpec env.P 151 [p.lv, .ref (mLV a b y)] (.bool (outL y p)) := by
  refine FSpec_of_code env_ok (fn := Tryz.f151) Tryz.func151 rfl Tryz.call151 _ _ ?_
  ((repeat ((conv => whnf); first | refine brT ?_ | refine brF ?_)); conv => whnf)
  (refine ⟨fun h => ?_, fun h => ?_⟩ <;> rw [h])
  · ((repeat ((conv => whnf); first | refine brT ?_ | refine brF ?_)); conv => whnf)
    refine fin ?_
    unfold outL; rw [h]; rfl
  · ((repeat ((conv => whnf); first | refine brT ?_ | refine brF ?_)); conv => whnf)
    refine ⟨_, livedTo_spec p y, ?_⟩
    ((repeat ((conv => whnf); first | refine brT ?_ | refine brF ?_)); conv => whnf)
    refine fin ?_
    unfold outL; rw [h]; rfl
theorem early1_spec (l : Lw) (ps : List Per) (us : List Uni) (F M : List Int) (a b y : Int) (p : Per) : FSpec env.P 152 [p.lv, .ref (cLV l ps us F M), .ref (mLV a b y)] (.bool (earlyL l y p)) := by
  obtain ⟨d, c, aa, g, w, h, p', m⟩ := l
  unfold cLV upL
  refine FSpec_of_code env_ok (fn := Tryz.f152) Tryz.func152 rfl Tryz.call152 _ _ ?_
  ((repeat ((conv => whnf); first | refine brT ?_ | refine brF ?_)); conv => whnf)
  exact fin rfl
theorem outside_spec (l : Lw) (ps : List Per) (us : List Uni) (F M : List Int) (a b : Nat) (y : Int) (ha : a < ps.length) (hb : b < ps.length) :
    FSpec env.P 121 [cLV l ps us F M, mLV a b y] (.bool (outL y ps[a] || outL y ps[b])) := by
  have h1 := isForOne_spec (mLV a b y) .nil l ps us F M a b y ha hb _ (outL y) (out1_spec a b y)
  obtain ⟨d, c, aa, g, w, h, p, m⟩ := l
  unfold cLV upL at h1 ⊢
  refine FSpec_of_code env_ok (fn := Tryz.f121) Tryz.func121 rfl Tryz.call121 _ _ ?_
  ((repeat ((conv => whnf); first | refine brT ?_ | refine brF ?_)); conv => whnf)
  refine ⟨_, h1, ?_⟩
  ((repeat ((conv => whnf); first | refine brT ?_ | refine brF ?_)); conv => whnf)
  exact fin rfl
theorem early_spec (l : Lw) (ps : List Per) (us : List Uni) (F M : List Int) (a b : Nat) (y : Int) (ha : a < ps.length) (hb : b < ps.length) :
    FSpec env.P 122 [cLV l ps us F M, mLV a b y] (.bool (earlyL l y ps[a] || earlyL l y ps[b])) := by
  have h1 := isForOne2_spec (cLV l ps us F M) (mLV a b y) l ps us F M a b y ha hb _ (earlyL l y) (early1_spec l ps us F M a b y)
  obtain ⟨d, c, aa, g, w, h, p, m⟩ := l
  unfold cLV upL at h1 ⊢
  refine FSpec_of_code env_ok (fn := Tryz.f122) Tryz.func122 rfl Tryz.call122 _ _ ?_
  ((repeat ((conv => whnf); first | refine brT ?_ | refine brF ?_)); conv => whnf)
  refine ⟨_, h1, ?_⟩
  ((repeat ((conv => whnf); first | refine brT ?_ | refine brF ?_)); conv => whnf)
  exact fin rfl
end Go.Proofs.YtgkjafmmekjjlaaGreat


namespace Go.Proofs.YtgkjafmmekjjlaaGreat
open Go.Lg Go.Pm
set_option maxHeartbeats 3200000
set_option maxRecDepth 10000
set_option linter.unusedVariables false
set_option linter.unusedSimpArgs false

theorem partnersIn0_h (keep : Uni → Bool) (ps : List Per) (us : List Uni) (p : Int) (G : Nat) (hu : us.length ≤ 60)
    (hk : ∀ (k : Nat) (h : k < us.length), FSpec env.P G [us[k].lv] (.bool (keep us[k]))) :
    HSpec env.P 159 [famLV ps us, .int .i64 p, .clos G []] [] (.hs 0 ((othersTo keep p us us.length).map intLV).length) [.arr 3 1 ((othersTo keep p us us.length).map intLV)] := by
  refine HSpec_of_code (E := env.x [] 0) env_ok.x (fn := Tryz.f159) Tryz.func159 rfl Tryz.call159 _ _ _ _ ?_
  ((repeat ((conv => whnf); first | refine brT ?_ | refine brF ?_)); conv => whnf)
  intro hn
  ((repeat ((conv => whnf); first | refine brT ?_ | refine brF ?_)); conv => whnf)
  refine loop_ruleR (α := Nat) [.old 0, .nil 3 1] (fun k => [(13, .int .i64 (k : Int)), (7, .hs 1 ((othersTo keep p us k).map intLV).length)]) (fun k => [.box (famLV ps us), .arr 3 1 ((othersTo keep p us k).map intLV)])
    (fun k => us.length - k) (fun k => k ≤ us.length) 0 (Nat.zero_le _) ?_ ?_
  · refine ⟨?_, ⟨rfl, rfl, rfl, rfl, trivial⟩, rfl⟩
    repeat ((conv => whnf); first | refine ⟨rfl, rfl, ?_⟩)
    trivial
  intro k hk0
  ((repeat ((conv => whnf); first | refine brT ?_ | refine brF ?_)); conv => whnf)
  (refine ⟨fun h1 => ?_, fun h1 => ?_⟩ <;> rw [h1])
  · have hlt : k < us.length := by rw [ltI_t] at h1; simp at h1; omega
    have hs := othersTo_succ keep p us hlt
    have hl := othersTo_len keep p us k
    have hl1 := othersTo_len keep p us (k + 1)
    have e : LV.int .i64 (IntKind.i64.wrap ((k : Int) + 1)) = LV.int .i64 ((k + 1 : Nat) : Int) := step_i hlt (by unfold Go.maxLen; omega)
    ((repeat ((conv => whnf); first | refine brT ?_ | refine brF ?_)); conv => whnf)
    refine ⟨k, us[k].lv, rfl, by simp [hlt], rfl, ?_⟩
    ((repeat ((conv => whnf); first | refine brT ?_ | refine brF ?_)); conv => whnf)
    refine ⟨_, hk k hlt, ?_⟩
    generalize us[k] = u at hs
    ((repeat ((conv => whnf); first | refine brT ?_ | refine brF ?_)); conv => whnf)
    (refine ⟨fun h2 => ?_, fun h2 => ?_⟩ <;> rw [h2])
    · rw [notB_t] at h2
      rw [show otherL keep p u = [] by unfold otherL; rw [h2], List.append_nil] at hs
      ((repeat ((conv => whnf); first | refine brT ?_ | refine brF ?_)); conv => whnf)
      refine round_endR [.old 0, .old 1] (k + 1) hlt (by omega) ⟨?_, ⟨rfl, rfl, rfl, congrArg (Blk.arr 3 1) (by rw [hs]), trivial⟩, rfl⟩
      have e3 : LV.hs 1 ((othersTo keep p us k).map intLV).length = LV.hs 1 ((othersTo keep p us (k + 1)).map intLV).length := by rw [hs]
      repeat ((conv => whnf); first | refine ⟨rfl, e, ?_⟩ | refine ⟨rfl, e3, ?_⟩ | refine ⟨rfl, rfl, ?_⟩)
      trivial
    rw [notB_f] at h2
    ((repeat ((conv => whnf); first | refine brT ?_ | refine brF ?_)); conv => whnf)
    (refine ⟨fun h3 => ?_, fun h3 => ?_⟩ <;> rw [h3])
    · rw [show otherL keep p u = [u.wife] by unfold otherL; rw [h2, h3]] at hs
      have e2 : ((othersTo keep p us k).map intLV ++ [LV.int .i64 u.wife]) = (othersTo keep p us (k + 1)).map intLV := by rw [hs, List.map_append]; rfl
      have e3 : LV.hs 1 ((othersTo keep p us k).map intLV ++ [LV.int .i64 u.wife]).length = LV.hs 1 ((othersTo keep p us (k + 1)).map intLV).length := by rw [e2]
      ((repeat ((conv => whnf); first | refine brT ?_ | refine brF ?_)); conv => whnf)
      refine ⟨rfl, rfl, ?_, ?_, ?_⟩
      · rw [e2]; unfold Go.maxLen; simp; omega
      · rw [e2]; simp; omega
      ((repeat ((conv => whnf); first | refine brT ?_ | refine brF ?_)); conv => whnf)
      refine round_endR [.old 0, .old 4] (k + 1) hlt (by omega) ⟨?_, ⟨rfl, rfl, rfl, congrArg (Blk.arr 3 1) e2, trivial⟩, rfl⟩
      repeat ((conv => whnf); first | refine ⟨rfl, e, ?_⟩ | refine ⟨rfl, e3, ?_⟩ | refine ⟨rfl, rfl, ?_⟩)
      trivial
    ((repeat ((conv => whnf); first | refine brT ?_ | refine brF ?_)); conv => whnf)
    (refine ⟨fun h4 => ?_, fun h4 => ?_⟩ <;> rw [h4])
    · rw [show otherL keep p u = [u.husband] by unfold otherL; rw [h2, h3, h4]] at hs
      have e2 : ((othersTo keep p us k).map intLV ++ [LV.int .i64 u.husband]) = (othersTo keep p us (k + 1)).map intLV := by rw [hs, List.map_append]; rfl
      have e3 : LV.hs 1 ((othersTo keep p us k).map intLV ++ [LV.int .i64 u.husband]).length = LV.hs 1 ((othersTo keep p us (k + 1)).map intLV).length := by rw [e2]
      ((repeat ((conv => whnf); first | refine brT ?_ | refine brF ?_)); conv => whnf)
      refine ⟨rfl, rfl, ?_, ?_, ?_⟩
      · rw [e2]; unfold Go.maxLen; simp; omega
      · rw [e2]; simp; omega
      ((repeat ((conv => whnf); first | refine brT ?_ | refine brF ?_)); conv => whnf)
      refine round_endR [.old 0, .old 4] (k + 1) hlt (by omega) ⟨?_, ⟨rfl, rfl, rfl, congrArg (Blk.arr 3 1) e2, trivial⟩, rfl⟩
      repeat ((conv => whnf); first | refine ⟨rfl, e, ?_⟩ | refine ⟨rfl, e3, ?_⟩ | refine ⟨rfl, rfl, ?_⟩)
      trivial
    · rw [show otherL keep p u = [] by unfold otherL; rw [h2, h3, h4], List.append_nil] at hs
      ((repeat ((conv => whnf); first | refine brT ?_ | refine brF ?_)); conv => whnf)
      refine round_endR [.old 0, .old 1] (k + 1) hlt (by omega) ⟨?_, ⟨rfl, rfl, rfl, congrArg (Blk.arr 3 1) (by rw [hs]), trivial⟩, rfl⟩
      have e3 : LV.hs 1 ((othersTo keep p us k).map intLV).length = LV.hs 1 ((othersTo keep p us (k + 1)).map intLV).length := by rw [hs]
      repeat ((conv => whnf); first | refine ⟨rfl, e, ?_⟩ | refine ⟨rfl, e3, ?_⟩ | refine ⟨rfl, rfl, ?_⟩)
      trivial
  · have h3 : k = us.length := by rw [ltI_f] at h1; simp at h1; omega
    subst h3
    ((repeat ((conv => whnf); first | refine brT ?_ | refine brF ?_)); conv => whnf)
    exact ⟨[.hs 0 ((othersTo keep p us us.length).map intLV).length], rfl, rfl, .inr ⟨[.old 1], ⟨rfl, rfl, trivial⟩, ⟨rfl, rfl, trivial⟩, rfl⟩⟩
theorem partnersIn1_h (keep : Uni → Bool) (ps : List Per) (us : List Uni) (p : Int) (G : Nat) (C : LV) (hu : us.length ≤ 60)
    (hk : ∀ (k : Nat) (h : k < us.length), FSpec env.P G [us[k].lv, .ref C] (.bool (keep us[k]))) :
    HSpec env.P 159 [famLV ps us, .int .i64 p, .clos G [.ref C]] [] (.hs 0 ((othersTo keep p us us.length).map intLV).length) [.arr 3 1 ((othersTo keep p us us.length).map intLV)] := by
  refine HSpec_of_code (E := env.x [] 0) env_ok.x (fn := Tryz.f159) Tryz.func159 rfl Tryz.call159 _ _ _ _ ?_
  ((repeat ((conv => whnf); first | refine brT ?_ | refine brF ?_)); conv => whnf)
  intro hn
  ((repeat ((conv => whnf); first | refine brT ?_ | refine brF ?_)); conv => whnf)
  refine loop_ruleR (α := Nat) [.old 0, .nil 3 1] (fun k => [(13, .int .i64 (k : Int)), (7, .hs 1 ((othersTo keep p us k).map intLV).length)]) (fun k => [.box (famLV ps us), .arr 3 1 ((othersTo keep p us k).map intLV)])
    (fun k => us.length - k) (fun k => k ≤ us.length) 0 (Nat.zero_le _) ?_ ?_
  · refine ⟨?_, ⟨rfl, rfl, rfl, rfl, trivial⟩, rfl⟩
    repeat ((conv => whnf); first | refine ⟨rfl, rfl, ?_⟩)
    trivial
  intro k hk0
  ((repeat ((conv => whnf); first | refine brT ?_ | refine brF ?_)); conv => whnf)
  (refine ⟨fun h1 => ?_, fun h1 => ?_⟩ <;> rw [h1])
  · have hlt : k < us.length := by rw [ltI_t] at h1; simp at h1; omega
    have hs := othersTo_succ keep p us hlt
    have hl := othersTo_len keep p us k
    have hl1 := othersTo_len keep p us (k + 1)
    have e : LV.int .i64 (IntKind.i64.wrap ((k : Int) + 1)) = LV.int .i64 ((k + 1 : Nat) : Int) := step_i hlt (by unfold Go.maxLen; omega)
    ((repeat ((conv => whnf); first | refine brT ?_ | refine brF ?_)); conv => whnf)
    refine ⟨k, us[k].lv, rfl, by simp [hlt], rfl, ?_⟩
    ((repeat ((conv => whnf); first | refine brT ?_ | refine brF ?_)); conv => whnf)
    refine ⟨_, hk k hlt, ?_⟩
    generalize us[k] = u at hs
    ((repeat ((conv => whnf); first | refine brT ?_ | refine brF ?_)); conv => whnf)
    (refine ⟨fun h2 => ?_, fun h2 => ?_⟩ <;> rw [h2])
    · rw [notB_t] at h2
      rw [show otherL keep p u = [] by unfold otherL; rw [h2], List.append_nil] at hs
      ((repeat ((conv => whnf); first | refine brT ?_ | refine brF ?_)); conv => whnf)
      refine round_endR [.old 0, .old 1] (k + 1) hlt (by omega) ⟨?_, ⟨rfl, rfl, rfl, congrArg (Blk.arr 3 1) (by rw [hs]), trivial⟩, rfl⟩
      have e3 : LV.hs 1 ((othersTo keep p us k).map intLV).length = LV.hs 1 ((othersTo keep p us (k + 1)).map intLV).length := by rw [hs]
      repeat ((conv => whnf); first | refine ⟨rfl, e, ?_⟩ | refine ⟨rfl, e3, ?_⟩ | refine ⟨rfl, rfl, ?_⟩)
      trivial
    rw [notB_f] at h2
    ((repeat ((conv => whnf); first | refine brT ?_ | refine brF ?_)); conv => whnf)
    (refine ⟨fun h3 => ?_, fun h3 => ?_⟩ <;> rw [h3])
    · rw [show otherL keep p u = [u.wife] by unfold otherL; rw [h2, h3]] at hs
      have e2 : ((othersTo keep p us k).map intLV ++ [LV.int .i64 u.wife]) = (othersTo keep p us (k + 1)).map intLV := by rw [hs, List.map_append]; rfl
      have e3 : LV.hs 1 ((othersTo keep p us k).map intLV ++ [LV.int .i64 u.wife]).length = LV.hs 1 ((othersTo keep p us (k + 1)).map intLV).length := by rw [e2]
      ((repeat ((conv => whnf); first | refine brT ?_ | refine brF ?_)); conv => whnf)
      refine ⟨rfl, rfl, ?_, ?_, ?_⟩
      · rw [e2]; unfold Go.maxLen; simp; omega
      · rw [e2]; simp; omega
      ((repeat ((conv => whnf); first | refine brT ?_ | refine brF ?_)); conv => whnf)
      refine round_endR [.old 0, .old 4] (k + 1) hlt (by omega) ⟨?_, ⟨rfl, rfl, rfl, congrArg (Blk.arr 3 1) e2, trivial⟩, rfl⟩
      repeat ((conv => whnf); first | refine ⟨rfl, e, ?_⟩ | refine ⟨rfl, e3, ?_⟩ | refine ⟨rfl, rfl, ?_⟩)
      trivial
    ((repeat ((conv => whnf); first | refine brT ?_ | refine brF ?_)); conv => whnf)
    (refine ⟨fun h4 => ?_, fun h4 => ?_⟩ <;> rw [h4])
    · rw [show otherL keep p u = [u.husband] by unfold otherL; rw [h2, h3, h4]] at hs
      have e2 : ((othersTo keep p us k).map intLV ++ [LV.int .i64 u.husband]) = (othersTo keep p us (k + 1)).map intLV := by rw [hs, List.map_append]; rfl
      have e3 : LV.hs 1 ((othersTo keep p us k).map intLV ++ [LV.int .i64 u.husband]).length = LV.hs 1 ((othersTo keep p us (k + 1)).map intLV).length := by rw [e2]
      ((repeat ((conv => whnf); first | refine brT ?_ | refine brF ?_)); conv => whnf)
      refine ⟨rfl, rfl, ?_, ?_, ?_⟩
      · rw [e2]; unfold Go.maxLen; simp; omega
      · rw [e2]; simp; omega
      ((repeat ((conv => whnf); first | refine brT ?_ | refine brF ?_)); conv => whnf)
      refine round_endR [.old 0, .old 4] (k + 1) hlt (by omega) ⟨?_, ⟨rfl, rfl, rfl, congrArg (Blk.arr 3 1) e2, trivial⟩, rfl⟩
      repeat ((conv => whnf); first | refine ⟨rfl, e, ?_⟩ | refine ⟨rfl, e3, ?_⟩ | refine ⟨rfl, rfl, ?_⟩)
      trivial
    · rw [show otherL keep p u = [] by unfold otherL; rw [h2, h3, h4], List.append_nil] at hs
      ((repeat ((conv => whnf); first | refine brT ?_ | refine brF ?_)); conv => whnf)
      refine round_endR [.old 0, .old 1] (k + 1) hlt (by omega) ⟨?_, ⟨rfl, rfl, rfl, congrArg (Blk.arr 3 1) (by rw [hs]), trivial⟩, rfl⟩
      have e3 : LV.hs 1 ((othersTo keep p us k).map intLV).length = LV.hs 1 ((othersTo keep p us (k + 1)).map intLV).length := by rw [hs]
      repeat ((conv => whnf); first | refine ⟨rfl, e, ?_⟩ | refine ⟨rfl, e3, ?_⟩ | refine ⟨rfl, rfl, ?_⟩)
      trivial
  · have h3 : k = us.length := by rw [ltI_f] at h1; simp at h1; omega
    subst h3
    ((repeat ((conv => whnf); first | refine brT ?_ | refine brF ?_)); conv => whnf)
    exact ⟨[.hs 0 ((othersTo keep p us us.length).map intLV).length], rfl, rfl, .inr ⟨[.old 1], ⟨rfl, rfl, trivial⟩, ⟨rfl, rfl, trivial⟩, rfl⟩⟩
theorem hasWives_spec (l : Lw) (ps : List Per) (us : List Uni) (F M : List Int) (a b : Nat) (y : Int) (hf : famOk ps us = true) :
    FSpec env.P 123 [cLV l ps us F M, mLV a b y] (.bool (leI l.wives ((othersTo (keepAt ps y) a us us.length).length : Int))) := by
  have h1 := ints_f (partnersAt_h ps us (a : Int) y hf)
  generalize othersTo (keepAt ps y) a us us.length = R at h1 ⊢
  have hR : ((R.map intLV).length : Int) = (R.length : Int) := by simp
  obtain ⟨d, c, aa, g, w, h, p, m⟩ := l
  unfold cLV upL
  refine FSpec_of_code env_ok (fn := Tryz.f123) Tryz.func123 rfl Tryz.call123 _ _ ?_
  ((repeat ((conv => whnf); first | refine brT ?_ | refine brF ?_)); conv => whnf)
  refine ⟨true, by kernel_rfl, ?_⟩
  ((repeat ((conv => whnf); first | refine brT ?_ | refine brF ?_)); conv => whnf)
  refine ⟨_, h1, ?_⟩
  rw [show flatT (rowOw R) = true from flat_ints R]
  ((repeat ((conv => whnf); first | refine brT ?_ | refine brF ?_)); conv => whnf)
  intro _
  ((repeat ((conv => whnf); first | refine brT ?_ | refine brF ?_)); conv => whnf)
  rw [hR]
  exact fin rfl
theorem hasHusbands_spec (l : Lw) (ps : List Per) (us : List Uni) (F M : List Int) (a b : Nat) (y : Int) (hf : famOk ps us = true) :
    FSpec env.P 124 [cLV l ps us F M, mLV a b y] (.bool (leI l.husbands ((othersTo (keepAt ps y) b us us.length).length : Int))) := by
  have h1 := ints_f (partnersAt_h ps us (b : Int) y hf)
  generalize othersTo (keepAt ps y) b us us.length = R at h1 ⊢
  have hR : ((R.map intLV).length : Int) = (R.length : Int) := by simp
  obtain ⟨d, c, aa, g, w, h, p, m⟩ := l
  unfold cLV upL
  refine FSpec_of_code env_ok (fn := Tryz.f124) Tryz.func124 rfl Tryz.call124 _ _ ?_
  ((repeat ((conv => whnf); first | refine brT ?_ | refine brF ?_)); conv => whnf)
  refine ⟨true, by kernel_rfl, ?_⟩
  ((repeat ((conv => whnf); first | refine brT ?_ | refine brF ?_)); conv => whnf)
  refine ⟨_, h1, ?_⟩
  rw [show flatT (rowOw R) = true from flat_ints R]
  ((repeat ((conv => whnf); first | refine brT ?_ | refine brF ?_)); conv => whnf)
  intro _
  ((repeat ((conv => whnf); first | refine brT ?_ | refine brF ?_)); conv => whnf)
  rw [hR]
  exact fin rfl
theorem lineal_spec (l : Lw) (ps : List Per) (us : List Uni) (F M : List Int) (a b : Nat) (y : Int) (hf : famOk ps us = true) (ha : a < ps.length) (hb : b < ps.length) :
    FSpec env.P 125 [cLV l ps us F M, mLV a b y] (.bool (leI 0 (upd ps a b) || leI 0 (upd ps b a))) := by
  have h1 := lead_spec (fam_pi hf) (fam_sh hf) ha hb
  have h2 := lead_spec (fam_pi hf) (fam_sh hf) hb ha
  obtain ⟨d, c, aa, g, w, h, p, m⟩ := l
  unfold cLV
  unfold upL at h1 h2 ⊢
  refine FSpec_of_code env_ok (fn := Tryz.f125) Tryz.func125 rfl Tryz.call125 _ _ ?_
  ((repeat ((conv => whnf); first | refine brT ?_ | refine brF ?_)); conv => whnf)
  refine ⟨_, h1, ?_⟩
  ((repeat ((conv => whnf); first | refine brT ?_ | refine brF ?_)); conv => whnf)
  (refine ⟨fun h => ?_, fun h => ?_⟩ <;> rw [h])
  · ((repeat ((conv => whnf); first | refine brT ?_ | refine brF ?_)); conv => whnf)
    exact fin rfl
  · ((repeat ((conv => whnf); first | refine brT ?_ | refine brF ?_)); conv => whnf)
    refine ⟨_, h2, ?_⟩
    ((repeat ((conv => whnf); first | refine brT ?_ | refine brF ?_)); conv => whnf)
    exact fin rfl
/-- Is the least link within so many steps? None stands for no bar. -/
def withinB (n : Int) (L : List (Int × Int)) : Bool := match eqI n 0 with
  | true => false
  | false => lkB L && leI (civR L) n
theorem areWithin_spec (l : Lw) (ps : List Per) (us : List Uni) (F M : List Int) (n : Int) (x z : Int) (h : (hasP ps us x && hasP ps us z) = true) :
    FSpec env.P 155 [cLV l ps us F M, .int .i64 n, .int .i64 x, .int .i64 z] (.bool (withinB n (linksL ps us x z))) := by
  have h1 := climbLinks_f ps us x z h
  have h2 := leastLink_f _ (links_small ps us x z) (links_len ps us x z)
  obtain ⟨c1, c2, c3, c4⟩ := lkR_small (links_small ps us x z)
  have w1 : IntKind.i64.wrap ((lkR (linksL ps us x z)).1 + (lkR (linksL ps us x z)).2) = civR (linksL ps us x z) := wrap64 (by omega) (by omega)
  unfold withinB
  generalize civR (linksL ps us x z) = s at w1 ⊢
  generalize lkB (linksL ps us x z) = B at h2 ⊢
  generalize lkR (linksL ps us x z) = R at h2 w1
  generalize linksL ps us x z = L at h1 h2
  obtain ⟨d, c, aa, g, w, hh, p, m⟩ := l
  unfold cLV
  unfold upL at h1 ⊢
  refine FSpec_of_code env_ok (fn := Tryz.f155) Tryz.func155 rfl Tryz.call155 _ _ ?_
  ((repeat ((conv => whnf); first | refine brT ?_ | refine brF ?_)); conv => whnf)
  (refine ⟨fun g0 => ?_, fun g0 => ?_⟩ <;> rw [g0])
  · ((repeat ((conv => whnf); first | refine brT ?_ | refine brF ?_)); conv => whnf)
    exact fin rfl
  · ((repeat ((conv => whnf); first | refine brT ?_ | refine brF ?_)); conv => whnf)
    refine ⟨_, h1, ?_⟩
    ((repeat ((conv => whnf); first | refine brT ?_ | refine brF ?_)); conv => whnf)
    refine ⟨_, h2, ?_⟩
    ((repeat ((conv => whnf); first | refine brT ?_ | refine brF ?_)); conv => whnf)
    cases B
    · ((repeat ((conv => whnf); first | refine brT ?_ | refine brF ?_)); conv => whnf)
      exact fin rfl
    · ((repeat ((conv => whnf); first | refine brT ?_ | refine brF ?_)); conv => whnf)
      rw [w1]
      exact fin rfl
theorem withinDegree_spec (l : Lw) (ps : List Per) (us : List Uni) (F M : List Int) (a b : Nat) (y : Int) (h : (hasP ps us a && hasP ps us b) = true) :
    FSpec env.P 126 [cLV l ps us F M, mLV a b y] (.bool (withinB l.degree (linksL ps us a b))) := by
  have h1 := areWithin_spec l ps us F M l.degree a b h
  obtain ⟨d, c, aa, g, w, hh, p, m⟩ := l
  unfold cLV at h1 ⊢
  unfold upL at h1 ⊢
  refine FSpec_of_code env_ok (fn := Tryz.f126) Tryz.func126 rfl Tryz.call126 _ _ ?_
  ((repeat ((conv => whnf); first | refine brT ?_ | refine brF ?_)); conv => whnf)
  refine ⟨_, h1, ?_⟩
  ((repeat ((conv => whnf); first | refine brT ?_ | refine brF ?_)); conv => whnf)
  exact fin rfl
def canonB (n : Int) (L : List (Int × Int)) : Bool := match eqI n 0 with
  | true => false
  | false => lkB L && leI (cnR L) n
theorem withinCanon_spec (l : Lw) (ps : List Per) (us : List Uni) (F M : List Int) (a b : Nat) (y : Int) (h : (hasP ps us a && hasP ps us b) = true) :
    FSpec env.P 127 [cLV l ps us F M, mLV a b y] (.bool (canonB l.canon (linksL ps us a b))) := by
  have h1 := climbLinks_f ps us a b h
  have h2 := leastCanon_f _ (links_small ps us a b) (links_len ps us a b)
  unfold canonB
  generalize cnR (linksL ps us a b) = s at h2 ⊢
  generalize lkB (linksL ps us a b) = B at h2 ⊢
  generalize linksL ps us a b = L at h1 h2
  obtain ⟨d, c, aa, g, w, hh, p, m⟩ := l
  unfold cLV
  unfold upL at h1 ⊢
  refine FSpec_of_code env_ok (fn := Tryz.f127) Tryz.func127 rfl Tryz.call127 _ _ ?_
  ((repeat ((conv => whnf); first | refine brT ?_ | refine brF ?_)); conv => whnf)
  (refine ⟨fun g0 => ?_, fun g0 => ?_⟩ <;> rw [g0])
  · ((repeat ((conv => whnf); first | refine brT ?_ | refine brF ?_)); conv => whnf)
    exact fin rfl
  · ((repeat ((conv => whnf); first | refine brT ?_ | refine brF ?_)); conv => whnf)
    refine ⟨_, h1, ?_⟩
    ((repeat ((conv => whnf); first | refine brT ?_ | refine brF ?_)); conv => whnf)
    refine ⟨_, h2, ?_⟩
    ((repeat ((conv => whnf); first | refine brT ?_ | refine brF ?_)); conv => whnf)
    cases B
    · ((repeat ((conv => whnf); first | refine brT ?_ | refine brF ?_)); conv => whnf)
      exact fin rfl
    · ((repeat ((conv => whnf); first | refine brT ?_ | refine brF ?_)); conv => whnf)
      exact fin rfl
theorem ints_get {F : List Int} {a : Nat} (h : a < F.length) : (F.map intLV)[a]? = some (intLV F[a]) := by
  rw [List.getElem?_map, List.getElem?_eq_getElem h]; rfl
theorem patri_spec (l : Lw) (ps : List Per) (us : List Uni) (F M : List Int) (a b : Nat) (y : Int) (ha : a < F.length) (hb : b < F.length) :
    FSpec env.P 128 [cLV l ps us F M, mLV a b y] (.bool (l.patri && eqI F[a] F[b])) := by
  have h1 := ints_get ha
  have h2 := ints_get hb
  generalize F[a] = x at h1 ⊢
  generalize F[b] = z at h2 ⊢
  obtain ⟨d, c, aa, g, w, hh, p, m⟩ := l
  unfold cLV upL rowSl
  refine FSpec_of_code env_ok (fn := Tryz.f128) Tryz.func128 rfl Tryz.call128 _ _ ?_
  ((repeat ((conv => whnf); first | refine brT ?_ | refine brF ?_)); conv => whnf)
  refine ⟨true, by kernel_rfl, ?_⟩
  ((repeat ((conv => whnf); first | refine brT ?_ | refine brF ?_)); conv => whnf)
  cases p
  · ((repeat ((conv => whnf); first | refine brT ?_ | refine brF ?_)); conv => whnf)
    exact fin rfl
  · ((repeat ((conv => whnf); first | refine brT ?_ | refine brF ?_)); conv => whnf)
    refine ⟨a, _, rfl, h1, rfl, ?_⟩
    ((repeat ((conv => whnf); first | refine brT ?_ | refine brF ?_)); conv => whnf)
    refine ⟨b, _, rfl, h2, rfl, ?_⟩
    ((repeat ((conv => whnf); first | refine brT ?_ | refine brF ?_)); conv => whnf)
    exact fin rfl
theorem matri_spec (l : Lw) (ps : List Per) (us : List Uni) (F M : List Int) (a b : Nat) (y : Int) (ha : a < M.length) (hb : b < M.length) :
    FSpec env.P 129 [cLV l ps us F M, mLV a b y] (.bool (l.matri && eqI M[a] M[b])) := by
  have h1 := ints_get ha
  have h2 := ints_get hb
  generalize M[a] = x at h1 ⊢
  generalize M[b] = z at h2 ⊢
  obtain ⟨d, c, aa, g, w, hh, p, m⟩ := l
  unfold cLV upL rowSl
  refine FSpec_of_code env_ok (fn := Tryz.f129) Tryz.func129 rfl Tryz.call129 _ _ ?_
  ((repeat ((conv => whnf); first | refine brT ?_ | refine brF ?_)); conv => whnf)
  refine ⟨true, by kernel_rfl, ?_⟩
  ((repeat ((conv => whnf); first | refine brT ?_ | refine brF ?_)); conv => whnf)
  cases m
  · ((repeat ((conv => whnf); first | refine brT ?_ | refine brF ?_)); conv => whnf)
    exact fin rfl
  · ((repeat ((conv => whnf); first | refine brT ?_ | refine brF ?_)); conv => whnf)
    refine ⟨a, _, rfl, h1, rfl, ?_⟩
    ((repeat ((conv => whnf); first | refine brT ?_ | refine brF ?_)); conv => whnf)
    refine ⟨b, _, rfl, h2, rfl, ?_⟩
    ((repeat ((conv => whnf); first | refine brT ?_ | refine brF ?_)); conv => whnf)
    exact fin rfl
end Go.Proofs.YtgkjafmmekjjlaaGreat


namespace Go.Proofs.YtgkjafmmekjjlaaGreat
open Go.Lg Go.Pm
set_option maxHeartbeats 3200000
set_option maxRecDepth 10000
set_option linter.unusedVariables false
set_option linter.unusedSimpArgs false

/-! ### Affinity, unions -/
theorem indexMem (F : Nat) (y z : LV) (q : Int → Bool) (xs : List Int) (hF : ∀ x ∈ xs, FSpec env.P F [.int .i64 x, .ref y, .ref z] (.bool (q x))) :
    FSpec env.P 184 [rowSl xs, .clos F [.ref y, .ref z]] (.int .i64 (idxFrom q 0 xs)) := by
  refine FSpec_of_code env_ok (fn := Tryz.f184) Tryz.func184 rfl Tryz.call184 _ _ ?_
  ((repeat ((conv => whnf); first | refine brT ?_ | refine brF ?_)); conv => whnf)
  intro hp
  have hp' : xs.length ≤ Go.maxLen := by simpa using hp
  ((repeat ((conv => whnf); first | refine brT ?_ | refine brF ?_)); conv => whnf)
  refine loop_rule (α := Nat) (fun k => [(8, .int .i64 (k : Int))]) (fun k => []) (fun k => xs.length - k) (fun k => k ≤ xs.length ∧ idxFrom q k (xs.drop k) = idxFrom q 0 xs) 0 ⟨Nat.zero_le _, by simp⟩ ?_ ?_
  · refine ⟨?_, trivial, rfl, rfl⟩
    ((repeat ((conv => whnf); refine ⟨rfl, ?_⟩)); trivial)
  rintro k ⟨hk, hf⟩
  ((repeat ((conv => whnf); first | refine brT ?_ | refine brF ?_)); conv => whnf)
  (refine ⟨fun h1 => ?_, fun h1 => ?_⟩ <;> rw [h1])
  · have hlt : k < xs.length := by rw [ltI_t] at h1; simp at h1; omega
    rw [List.drop_eq_getElem_cons hlt] at hf
    simp only [idxFrom] at hf
    ((repeat ((conv => whnf); first | refine brT ?_ | refine brF ?_)); conv => whnf)
    refine ⟨k, intLV xs[k], rfl, by simp [hlt], rfl, ?_⟩
    ((repeat ((conv => whnf); first | refine brT ?_ | refine brF ?_)); conv => whnf)
    refine ⟨_, hF xs[k] (List.getElem_mem hlt), ?_⟩
    ((repeat ((conv => whnf); first | refine brT ?_ | refine brF ?_)); conv => whnf)
    (refine ⟨fun h2 => ?_, fun h2 => ?_⟩ <;> rw [h2])
    · rw [h2] at hf
      ((repeat ((conv => whnf); first | refine brT ?_ | refine brF ?_)); conv => whnf)
      exact ⟨rfl, by rw [← hf], List.nodup_nil⟩
    · rw [h2] at hf
      ((repeat ((conv => whnf); first | refine brT ?_ | refine brF ?_)); conv => whnf)
      refine round_end (k + 1) ⟨hlt, hf⟩ (by omega) ⟨?_, trivial, rfl, rfl⟩
      have e := step_i hlt hp'
      ((repeat ((conv => whnf); first | refine ⟨e, ?_⟩ | refine ⟨rfl, ?_⟩)); trivial)
  · have h3 : xs.length ≤ k := by rw [ltI_f] at h1; simp at h1; omega
    rw [List.drop_eq_nil_of_le h3] at hf
    ((repeat ((conv => whnf); first | refine brT ?_ | refine brF ?_)); conv => whnf)
    exact ⟨rfl, by rw [← hf]; rfl, List.nodup_nil⟩
theorem containsMem (F : Nat) (y z : LV) (q : Int → Bool) (xs : List Int) (hF : ∀ x ∈ xs, FSpec env.P F [.int .i64 x, .ref y, .ref z] (.bool (q x))) :
    FSpec env.P 176 [rowSl xs, .clos F [.ref y, .ref z]] (.bool (xs.any q)) := by
  refine FSpec_of_code env_ok (fn := Tryz.f176) Tryz.func176 rfl Tryz.call176 _ _ ?_
  ((repeat ((conv => whnf); first | refine brT ?_ | refine brF ?_)); conv => whnf)
  refine ⟨_, indexMem F y z q xs hF, ?_⟩
  ((repeat ((conv => whnf); first | refine brT ?_ | refine brF ?_)); conv => whnf)
  exact fin (idxFrom_ge _ _ _)
def keepY (y : Int) (u : Uni) : Bool := leI u.since y
def yesU (_ : Uni) : Bool := true
theorem keepY_spec (y : Int) (u : Uni) : FSpec env.P 175 [u.lv, .ref (.int .i64 y)] (.bool (keepY y u)) := by
  refine FSpec_of_code env_ok (fn := Tryz.f175) Tryz.func175 rfl Tryz.call175 _ _ ?_
  ((repeat ((conv => whnf); first | refine brT ?_ | refine brF ?_)); conv => whnf)
  exact fin rfl
theorem yesU_spec (u : Uni) : FSpec env.P 160 [u.lv] (.bool (yesU u)) := by
  refine FSpec_of_code env_ok (fn := Tryz.f160) Tryz.func160 rfl Tryz.call160 _ _ ?_
  ((repeat ((conv => whnf); first | refine brT ?_ | refine brF ?_)); conv => whnf)
  exact fin rfl
theorem others_in {ps : List Per} {us : List Uni} (hf : famOk ps us = true) (keep : Uni → Bool) (p : Int) : ∀ x ∈ othersTo keep p us us.length, hasP ps us x = true := by
  intro x hx
  unfold othersTo at hx
  rw [List.take_length, List.mem_flatMap] at hx
  obtain ⟨u, hu, hx⟩ := hx
  obtain ⟨k, hk, rfl⟩ := List.mem_iff_getElem.1 hu
  obtain ⟨⟨m0, ml, w0, wl⟩, _⟩ := uni_of hf hk
  have hv : x = us[k].husband ∨ x = us[k].wife := by
    unfold otherL at hx
    repeat' split at hx
    all_goals first
      | (simp at hx; done)
      | (simp at hx; exact .inr hx)
      | (simp at hx; exact .inl hx)
  have fin2 : ∀ z : Int, 0 ≤ z → z.toNat < ps.length → hasP ps us z = true := fun z z0 zl => by
    unfold hasP
    simp only [Bool.and_eq_true, leI_t, ltI_t]
    exact ⟨z0, by omega, hf⟩
  rcases hv with rfl | rfl
  · exact fin2 _ m0 ml
  · exact fin2 _ w0 wl
/-- Is somebody else whom p had close to q? -/
def kinQ (l : Lw) (ps : List Per) (us : List Uni) (q x : Int) : Bool := notB (eqI x q) && withinB l.affinity (linksL ps us x q)
theorem kin2_spec (l : Lw) (ps : List Per) (us : List Uni) (F M : List Int) (q x : Int) (h : (hasP ps us x && hasP ps us q) = true) :
    FSpec env.P 177 [.int .i64 x, .ref (.int .i64 q), .ref (cLV l ps us F M)] (.bool (kinQ l ps us q x)) := by
  have h1 := areWithin_spec l ps us F M l.affinity x q h
  unfold kinQ
  generalize linksL ps us x q = L at h1 ⊢
  obtain ⟨d, c, aa, g, w, hh, p, m⟩ := l
  generalize hW : withinB _ L = W at h1 ⊢
  unfold cLV at h1 ⊢
  unfold upL at h1 ⊢
  refine FSpec_of_code env_ok (fn := Tryz.f177) Tryz.func177 rfl Tryz.call177 _ _ ?_
  ((repeat ((conv => whnf); first | refine brT ?_ | refine brF ?_)); conv => whnf)
  (refine ⟨fun g0 => ?_, fun g0 => ?_⟩ <;> rw [g0])
  · ((repeat ((conv => whnf); first | refine brT ?_ | refine brF ?_)); conv => whnf)
    refine ⟨_, h1, ?_⟩
    ((repeat ((conv => whnf); first | refine brT ?_ | refine brF ?_)); conv => whnf)
    exact fin rfl
  · ((repeat ((conv => whnf); first | refine brT ?_ | refine brF ?_)); conv => whnf)
    exact fin rfl
def affL (l : Lw) (ps : List Per) (us : List Uni) (y : Int) (p q : Int) : Bool := (othersTo (keepY y) p us us.length).any (kinQ l ps us q)
theorem marriedKin_spec (l : Lw) (ps : List Per) (us : List Uni) (F M : List Int) (y p q : Int) (hf : famOk ps us = true) (hq : hasP ps us q = true) :
    FSpec env.P 158 [cLV l ps us F M, .int .i64 p, .int .i64 q, .int .i64 y] (.bool (affL l ps us y p q)) := by
  have h1 := ints_f (partnersIn1_h (keepY y) ps us p 175 (.int .i64 y) (famOk_parts hf).2.1 (fun k hk => keepY_spec y us[k]))
  have h2 := containsMem 177 (.int .i64 q) (cLV l ps us F M) (kinQ l ps us q) (othersTo (keepY y) p us us.length) (fun x hx => kin2_spec l ps us F M q x (by rw [others_in hf (keepY y) p x hx, hq]; rfl))
  unfold affL
  generalize othersTo (keepY y) p us us.length = R at h1 h2 ⊢
  generalize R.any (kinQ l ps us q) = B at h2 ⊢
  obtain ⟨d, c, aa, g, w, hh, pp, m⟩ := l
  unfold cLV at h2 ⊢
  unfold upL at h2 ⊢
  refine FSpec_of_code env_ok (fn := Tryz.f158) Tryz.func158 rfl Tryz.call158 _ _ ?_
  ((repeat ((conv => whnf); first | refine brT ?_ | refine brF ?_)); conv => whnf)
  refine ⟨_, h1, ?_⟩
  rw [show flatT (rowOw R) = true from flat_ints R]
  ((repeat ((conv => whnf); first | refine brT ?_ | refine brF ?_)); conv => whnf)
  refine ⟨_, h2, ?_⟩
  ((repeat ((conv => whnf); first | refine brT ?_ | refine brF ?_)); conv => whnf)
  exact fin rfl
theorem affine_spec (l : Lw) (ps : List Per) (us : List Uni) (F M : List Int) (a b : Nat) (y : Int) (hf : famOk ps us = true) (ha : hasP ps us a = true) (hb : hasP ps us b = true) :
    FSpec env.P 130 [cLV l ps us F M, mLV a b y] (.bool (affL l ps us y a b || affL l ps us y b a)) := by
  have h1 := marriedKin_spec l ps us F M y a b hf hb
  have h2 := marriedKin_spec l ps us F M y b a hf ha
  generalize affL l ps us y a b = A at h1 ⊢
  generalize affL l ps us y b a = B at h2 ⊢
  obtain ⟨d, c, aa, g, w, hh, p, m⟩ := l
  unfold cLV at h1 h2 ⊢
  unfold upL at h1 h2 ⊢
  refine FSpec_of_code env_ok (fn := Tryz.f130) Tryz.func130 rfl Tryz.call130 _ _ ?_
  ((repeat ((conv => whnf); first | refine brT ?_ | refine brF ?_)); conv => whnf)
  refine ⟨_, h1, ?_⟩
  ((repeat ((conv => whnf); first | refine brT ?_ | refine brF ?_)); conv => whnf)
  cases A
  · ((repeat ((conv => whnf); first | refine brT ?_ | refine brF ?_)); conv => whnf)
    refine ⟨_, h2, ?_⟩
    ((repeat ((conv => whnf); first | refine brT ?_ | refine brF ?_)); conv => whnf)
    exact fin rfl
  · ((repeat ((conv => whnf); first | refine brT ?_ | refine brF ?_)); conv => whnf)
    exact fin rfl
theorem index1_spec (l : List Int) (x : Int) : FSpec env.P 178 [.sl (l.map intLV), .int .i64 x] (.int .i64 (idxFrom (fun y => eqI x y) 0 l)) := by
  refine FSpec_of_code env_ok (fn := Tryz.f178) Tryz.func178 rfl Tryz.call178 _ _ ?_
  have hX : (l.map intLV).length = l.length := List.length_map ..
  ((repeat ((conv => whnf); first | refine brT ?_ | refine brF ?_)); conv => whnf)
  intro hn
  rw [hX] at hn
  ((repeat ((conv => whnf); first | refine brT ?_ | refine brF ?_)); conv => whnf)
  rw [hX]
  refine loop_rule (α := Nat) (fun k => [(8, .int .i64 (k : Int))]) (fun _ => []) (fun k => l.length - k) (fun k => k ≤ l.length ∧ idxFrom (fun y => eqI x y) k (l.drop k) = idxFrom (fun y => eqI x y) 0 l) 0 ⟨Nat.zero_le _, by simp⟩ ?_ ?_
  · refine ⟨?_, trivial, rfl, rfl⟩
    ((repeat ((conv => whnf); refine ⟨rfl, ?_⟩)); trivial)
  rintro k ⟨hk, hf⟩
  ((repeat ((conv => whnf); first | refine brT ?_ | refine brF ?_)); conv => whnf)
  (refine ⟨fun h1 => ?_, fun h1 => ?_⟩ <;> rw [h1])
  · have hlt : k < l.length := by rw [ltI_t] at h1; omega
    have e := step_i hlt hn
    rw [List.drop_eq_getElem_cons hlt] at hf
    simp only [idxFrom] at hf
    have hg : (l.map intLV)[k]? = some (intLV l[k]) := by rw [List.getElem?_map, List.getElem?_eq_getElem hlt]; rfl
    generalize l[k] = y at hf hg
    ((repeat ((conv => whnf); first | refine brT ?_ | refine brF ?_)); conv => whnf)
    refine ⟨k, intLV y, rfl, hg, rfl, ?_⟩
    ((repeat ((conv => whnf); first | refine brT ?_ | refine brF ?_)); conv => whnf)
    (refine ⟨fun h2 => ?_, fun h2 => ?_⟩ <;> rw [h2])
    · rw [h2] at hf
      ((repeat ((conv => whnf); first | refine brT ?_ | refine brF ?_)); conv => whnf)
      exact ⟨rfl, by rw [← hf], List.nodup_nil⟩
    · rw [h2] at hf
      ((repeat ((conv => whnf); first | refine brT ?_ | refine brF ?_)); conv => whnf)
      refine round_end (k + 1) ⟨hlt, hf⟩ (by omega) ⟨?_, trivial, rfl, rfl⟩
      ((repeat ((conv => whnf); first | refine ⟨e, ?_⟩ | refine ⟨rfl, ?_⟩)); trivial)
  · have h3 : l.length ≤ k := by rw [ltI_f] at h1; omega
    rw [List.drop_eq_nil_of_le h3] at hf
    ((repeat ((conv => whnf); first | refine brT ?_ | refine brF ?_)); conv => whnf)
    exact ⟨rfl, by rw [← hf]; rfl, List.nodup_nil⟩
theorem contains1_spec (l : List Int) (x : Int) : FSpec env.P 161 [.sl (l.map intLV), .int .i64 x] (.bool (l.any fun y => eqI x y)) := by
  refine FSpec_of_code env_ok (fn := Tryz.f161) Tryz.func161 rfl Tryz.call161 _ _ ?_
  ((repeat ((conv => whnf); first | refine brT ?_ | refine brF ?_)); conv => whnf)
  refine ⟨_, index1_spec l x, ?_⟩
  ((repeat ((conv => whnf); first | refine brT ?_ | refine brF ?_)); conv => whnf)
  exact fin (idxFrom_ge _ _ _)
theorem isUnion_spec (l : Lw) (ps : List Per) (us : List Uni) (F M : List Int) (a b : Nat) (y : Int) (hf : famOk ps us = true) :
    FSpec env.P 131 [cLV l ps us F M, mLV a b y] (.bool ((othersTo yesU a us us.length).any fun z => eqI (b : Int) z)) := by
  have h1 := ints_f (partnersIn0_h yesU ps us (a : Int) 160 (famOk_parts hf).2.1 (fun k hk => yesU_spec us[k]))
  generalize othersTo yesU a us us.length = R at h1 ⊢
  have h2 := contains1_spec R (b : Int)
  generalize (R.any fun z => eqI (b : Int) z) = B at h2 ⊢
  obtain ⟨d, c, aa, g, w, hh, pp, m⟩ := l
  unfold cLV upL
  refine FSpec_of_code env_ok (fn := Tryz.f131) Tryz.func131 rfl Tryz.call131 _ _ ?_
  ((repeat ((conv => whnf); first | refine brT ?_ | refine brF ?_)); conv => whnf)
  refine ⟨_, h1, ?_⟩
  rw [show flatT (rowOw R) = true from flat_ints R]
  ((repeat ((conv => whnf); first | refine brT ?_ | refine brF ?_)); conv => whnf)
  refine ⟨_, h2, ?_⟩
  ((repeat ((conv => whnf); first | refine brT ?_ | refine brF ?_)); conv => whnf)
  exact fin rfl
end Go.Proofs.YtgkjafmmekjjlaaGreat


namespace Go.Proofs.YtgkjafmmekjjlaaGreat
open Go.Lg Go.Pm
set_option maxHeartbeats 3200000
set_option maxRecDepth 10000
set_option linter.unusedVariables false
set_option linter.unusedSimpArgs false

/-! ### All impediments: the program's side -/
def barLV (x : Int × Nat) : LV := .st [.int .i64 x.1, .clos x.2 []]
def barsL : List (Int × Nat) :=
  [(1, 120), (2, 121), (3, 122), (4, 123), (5, 124), (6, 125),
   (7, 126), (8, 127), (9, 128), (10, 129), (11, 130), (12, 131)]
theorem bars_spec : FSpec env.P 93 [] (.own 138 2 (barsL.map barLV)) := by
  refine FSpec_of_code env_ok (fn := Tryz.f93) Tryz.func93 rfl Tryz.call93 _ _ ?_
  ((repeat ((conv => whnf); first | refine brT ?_ | refine brF ?_)); conv => whnf)
  exact ⟨rfl, rfl, rfl, rfl, by simp⟩
def impTo (q : Int → Bool) (B : List (Int × Nat)) (k : Nat) : List Int := ((B.take k).filter fun x => q x.1).map (·.1)
theorem impTo_succ (q : Int → Bool) (B : List (Int × Nat)) {k : Nat} (h : k < B.length) : impTo q B (k + 1) = impTo q B k ++ match q B[k].1 with | true => [B[k].1] | false => [] := by
  unfold impTo
  rw [List.take_succ_eq_append_getElem h, List.filter_append, List.map_append]
  cases hq : q B[k].1 <;> simp [hq]
theorem impTo_len (q : Int → Bool) (B : List (Int × Nat)) (k : Nat) : (impTo q B k).length ≤ B.length := by
  unfold impTo
  rw [List.length_map]
  exact Nat.le_trans (List.length_filter_le _ _) (by rw [List.length_take]; omega)
theorem imps_h (l : Lw) (ps : List Per) (us : List Uni) (F M : List Int) (a b y : Int) (q : Int → Bool) (B : List (Int × Nat)) (hb : FSpec env.P 93 [] (.own 138 2 (B.map barLV))) (hl : B.length ≤ 12)
    (hB : ∀ x ∈ B, FSpec env.P x.2 [cLV l ps us F M, mLV a b y] (.bool (q x.1))) :
    HSpec env.P 51 [cLV l ps us F M, mLV a b y] [] (.hs 0 ((impTo q B B.length).map intLV).length) [.arr 3 1 ((impTo q B B.length).map intLV)] := by
  have hBm : (B.map barLV).length = B.length := List.length_map ..
  obtain ⟨d, c, aa, g, w, hh, pp, m⟩ := l
  unfold cLV upL at hB ⊢
  unfold mLV at hB ⊢
  dsimp only [Lw.lv] at hB ⊢
  refine HSpec_of_code (E := env.x [] 0) env_ok.x (fn := Tryz.f51) Tryz.func51 rfl Tryz.call51 _ _ _ _ ?_
  ((repeat ((conv => whnf); first | refine brT ?_ | refine brF ?_)); conv => whnf)
  refine ⟨_, hb, ?_⟩
  ((repeat ((conv => whnf); first | refine brT ?_ | refine brF ?_)); conv => whnf)
  intro _
  ((repeat ((conv => whnf); first | refine brT ?_ | refine brF ?_)); conv => whnf)
  rw [hBm]
  refine loop_ruleR (α := Nat) [.old 0, .old 1, .nil 3 1] (fun k => [(10, .int .i64 (k : Int)), (5, .hs 2 ((impTo q B k).map intLV).length)]) (fun k => [.box (.st [.st [.int .i64 d, .int .i64 c, .int .i64 aa, .int .i64 g, .int .i64 w, .int .i64 hh, .bool pp, .bool m], famLV ps us, .sl ((clT ps).map rowSl), rowSl F, rowSl M]), .box (.st [.int .i64 a, .int .i64 b, .int .i64 y]), .arr 3 1 ((impTo q B k).map intLV)]) (fun k => B.length - k) (fun k => k ≤ B.length) 0 (Nat.zero_le _) ?_ ?_
  · refine ⟨?_, ⟨rfl, rfl, rfl, rfl, rfl, rfl, trivial⟩, rfl⟩
    ((repeat ((conv => whnf); refine ⟨rfl, rfl, ?_⟩)); trivial)
  intro k hk
  generalize hK : kk _ = KK
  ((repeat ((conv => whnf); first | refine brT ?_ | refine brF ?_)); conv => whnf)
  (refine ⟨fun g1 => ?_, fun g1 => ?_⟩ <;> rw [g1])
  · have hlt : k < B.length := by rw [ltI_t] at g1; omega
    have e := step_i hlt (by unfold Go.maxLen; omega)
    have hw := impTo_succ q B hlt
    have hwl := impTo_len q B (k + 1)
    have hBk := hB _ (List.getElem_mem hlt)
    have hg : (B.map barLV)[k]? = some (barLV B[k]) := by rw [List.getElem?_map, List.getElem?_eq_getElem hlt]; rfl
    generalize B[k] = x at hw hBk hg
    ((repeat ((conv => whnf); first | refine brT ?_ | refine brF ?_)); conv => whnf)
    refine ⟨k, barLV x, rfl, hg, rfl, ?_⟩
    ((repeat ((conv => whnf); first | refine brT ?_ | refine brF ?_)); conv => whnf)
    refine ⟨_, hBk, ?_⟩
    ((repeat ((conv => whnf); first | refine brT ?_ | refine brF ?_)); conv => whnf)
    (refine ⟨fun g2 => ?_, fun g2 => ?_⟩ <;> rw [g2])
    · rw [g2] at hw
      have e2 : (impTo q B k).map intLV ++ [LV.int .i64 x.1] = (impTo q B (k + 1)).map intLV := by rw [hw, List.map_append]; rfl
      ((repeat ((conv => whnf); first | refine brT ?_ | refine brF ?_)); conv => whnf)
      refine ⟨rfl, rfl, ?_, ?_, ?_⟩
      · rw [e2, List.length_map]; unfold Go.maxLen; omega
      · rw [e2, List.length_map]; show (impTo q B (k + 1)).length * 8 ≤ _; omega
      rw [e2]
      ((repeat ((conv => whnf); first | refine brT ?_ | refine brF ?_)); conv => whnf)
      subst hK
      refine round_endR [.old 0, .old 1, .old 5] (k + 1) hlt (by omega) ⟨?_, ⟨rfl, rfl, rfl, rfl, rfl, rfl, trivial⟩, rfl⟩
      ((repeat ((conv => whnf); first | refine ⟨rfl, e, ?_⟩ | refine ⟨rfl, rfl, ?_⟩)); trivial)
    · rw [g2, List.append_nil] at hw
      have e3 : LV.hs 2 ((impTo q B k).map intLV).length = LV.hs 2 ((impTo q B (k + 1)).map intLV).length := by rw [hw]
      ((repeat ((conv => whnf); first | refine brT ?_ | refine brF ?_)); conv => whnf)
      subst hK
      refine round_endR [.old 0, .old 1, .old 2] (k + 1) hlt (by omega) ⟨?_, ⟨rfl, rfl, rfl, rfl, rfl, congrArg (Blk.arr 3 1) (by rw [hw]), trivial⟩, rfl⟩
      repeat ((conv => whnf); first | refine ⟨rfl, e, ?_⟩ | refine ⟨rfl, e3, ?_⟩ | refine ⟨rfl, rfl, ?_⟩)
      trivial
  · have h4 : k = B.length := by rw [ltI_f] at g1; omega
    subst h4
    subst hK
    ((repeat ((conv => whnf); first | refine brT ?_ | refine brF ?_)); conv => whnf)
    exact ⟨[.hs 0 ((impTo q B B.length).map intLV).length], rfl, rfl, .inr ⟨[.old 2], ⟨rfl, rfl, trivial⟩, ⟨rfl, rfl, trivial⟩, rfl⟩⟩
end Go.Proofs.YtgkjafmmekjjlaaGreat


namespace Go.Proofs.YtgkjafmmekjjlaaGreat
open Go.Lg
set_option maxHeartbeats 3200000
set_option maxRecDepth 10000
set_option linter.unusedVariables false
set_option linter.unusedSimpArgs false

abbrev shLaw : Sh := .st [.int .i64, .int .i64, .int .i64, .int .i64, .int .i64, .int .i64, .bool, .bool]
theorem law_of_sh {x : LV} (h : hasSh shLaw x) : ∃ l : Lw, x = l.lv ∧ True := by
  simp only [hasSh] at h
  obtain ⟨xs, rfl, h⟩ := h
  match xs, h with
  | [a, b, c, d, e, f, g, i], h =>
    simp only [hasShs, hasSh] at h
    obtain ⟨⟨a, rfl⟩, ⟨b, rfl⟩, ⟨c, rfl⟩, ⟨d, rfl⟩, ⟨e, rfl⟩, ⟨f, rfl⟩, ⟨g, rfl⟩, ⟨i, rfl⟩, _⟩ := h
    exact ⟨⟨a, b, c, d, e, f, g, i⟩, rfl, trivial⟩
  | [], h => simp [hasShs] at h
  | [_], h => simp [hasShs] at h
  | [_, _], h => simp [hasShs] at h
  | [_, _, _], h => simp [hasShs] at h
  | [_, _, _, _], h => simp [hasShs] at h
  | [_, _, _, _, _], h => simp [hasShs] at h
  | [_, _, _, _, _, _], h => simp [hasShs] at h
  | [_, _, _, _, _, _, _], h => simp [hasShs] at h
  | _ :: _ :: _ :: _ :: _ :: _ :: _ :: _ :: _ :: _, h => simp [hasShs] at h
theorem leI_notlt (a b : Int) : leI b a = notB (ltI a b) := by
  unfold notB
  cases h : ltI a b with
  | true => rw [ltI_t] at h; show leI b a = false; rw [leI_f]; omega
  | false => rw [ltI_f] at h; show leI b a = true; rw [leI_t]; omega
end Go.Proofs.YtgkjafmmekjjlaaGreat

namespace Go.Proofs.YtgkjafmmekjjlaaGreat
open Go.Lg Go.Pm
set_option maxHeartbeats 3200000
set_option maxRecDepth 10000
set_option linter.unusedVariables false
set_option linter.unusedSimpArgs false

/-! ### What stands against a match: the document's side -/
theorem out_life (y : Int) (p : Per) : outL y p = (ltI y p.born || (notB (eqI p.died (-1)) && ltI p.died y)) := by
  unfold outL livedTo
  rw [leI_notlt]
  cases ltI y p.born <;> cases eqI p.died (-1) <;> cases ltI p.died y <;> simp [notB]
theorem life_spec (p : Per) (y : Int) : FSpec env.P 77 [p.lv, .int .i64 y] (.bool (outL y p)) := by
  rw [out_life]
  refine FSpec_of_code env_ok (fn := Tryz.f77) Tryz.func77 rfl Tryz.call77 _ _ ?_
  ((repeat' (((repeat ((conv => whnf); first | refine brT ?_ | refine brF ?_)); conv => whnf); (refine And.intro ?_ ?_ <;> (intro h; rw [h]; revert h; intro _)))); all_goals ((repeat ((conv => whnf); first | refine brT ?_ | refine brF ?_)); conv => whnf))
  all_goals (refine fin ?_; simp_all [notB])
def closeB (n : Int) (L : List (Int × Int)) : Bool := lkB L && leI (civR L) n
theorem close_spec (ps : List Per) (us : List Uni) (a b n : Int) : FSpec env.P 80 [famLV ps us, .int .i64 a, .int .i64 b, .int .i64 n] (.bool (closeB n (linksL ps us a b))) := by
  have h1 := civil_spec ps us a b
  unfold closeB
  generalize civR (linksL ps us a b) = r at h1 ⊢
  generalize lkB (linksL ps us a b) = B at h1 ⊢
  refine FSpec_of_code env_ok (fn := Tryz.f80) Tryz.func80 rfl Tryz.call80 _ _ ?_
  ((repeat ((conv => whnf); first | refine brT ?_ | refine brF ?_)); conv => whnf)
  refine ⟨_, h1, ?_⟩
  ((repeat ((conv => whnf); first | refine brT ?_ | refine brF ?_)); conv => whnf)
  cases B
  · ((repeat ((conv => whnf); first | refine brT ?_ | refine brF ?_)); conv => whnf)
    exact fin rfl
  · ((repeat ((conv => whnf); first | refine brT ?_ | refine brF ?_)); conv => whnf)
    exact fin rfl
def afP (ps : List Per) (us : List Uni) (p q y n : Int) (u : Uni) : Bool := otherB p u && (notB (eqI (otherV p u) q) && (leI u.since y && closeB n (linksL ps us (otherV p u) q)))
theorem affine9_spec (ps : List Per) (us : List Uni) (p q y n : Int) (hu : us.length ≤ 60) : FSpec env.P 83 [famLV ps us, .int .i64 p, .int .i64 q, .int .i64 y, .int .i64 n] (.bool (us.any (afP ps us p q y n))) := by
  refine FSpec_of_code env_ok (fn := Tryz.f83) Tryz.func83 rfl Tryz.call83 _ _ ?_
  have hU : (us.map Uni.lv).length = us.length := List.length_map ..
  ((repeat ((conv => whnf); first | refine brT ?_ | refine brF ?_)); conv => whnf)
  intro _
  ((repeat ((conv => whnf); first | refine brT ?_ | refine brF ?_)); conv => whnf)
  rw [hU]
  refine loop_rule (α := Nat) (fun k => [(18, .int .i64 (k : Int))]) (fun k => [.box (famLV ps us)]) (fun k => us.length - k) (fun k => k ≤ us.length ∧ (us.drop k).any (afP ps us p q y n) = us.any (afP ps us p q y n)) 0 ⟨Nat.zero_le _, rfl⟩ ?_ ?_
  · refine ⟨?_, ⟨rfl, trivial⟩, rfl, rfl⟩
    ((repeat ((conv => whnf); refine ⟨rfl, ?_⟩)); trivial)
  rintro k ⟨hk, hi⟩
  generalize hK : kk _ = KK
  ((repeat ((conv => whnf); first | refine brT ?_ | refine brF ?_)); conv => whnf)
  (refine ⟨fun g1 => ?_, fun g1 => ?_⟩ <;> rw [g1])
  · have hlt : k < us.length := by rw [ltI_t] at g1; omega
    have e := step_i hlt (by unfold Go.maxLen; omega)
    have hg : (us.map Uni.lv)[k]? = some us[k].lv := by rw [List.getElem?_map, List.getElem?_eq_getElem hlt]; rfl
    rw [List.drop_eq_getElem_cons hlt, List.any_cons] at hi
    generalize us[k] = u at hi hg
    have h1 := l1Other_spec u p
    have h2 := close_spec ps us (otherV p u) q n
    unfold afP at hi
    generalize closeB n (linksL ps us (otherV p u) q) = c4 at hi h2
    generalize hv : otherV p u = v at hi h1 h2
    generalize otherB p u = c1 at hi h1
    ((repeat ((conv => whnf); first | refine brT ?_ | refine brF ?_)); conv => whnf)
    refine ⟨k, u.lv, rfl, hg, rfl, ?_⟩
    ((repeat ((conv => whnf); first | refine brT ?_ | refine brF ?_)); conv => whnf)
    refine ⟨_, h1, ?_⟩
    ((repeat ((conv => whnf); first | refine brT ?_ | refine brF ?_)); conv => whnf)
    have skip : (c1 && (notB (eqI v q) && (leI u.since y && c4))) = false → (us.drop (k + 1)).any (afP ps us p q y n) = us.any (afP ps us p q y n) := fun e0 => by
      rw [e0, Bool.false_or] at hi; exact hi
    have done : (c1 && (notB (eqI v q) && (leI u.since y && c4))) = true → us.any (afP ps us p q y n) = true := fun e0 => by
      rw [e0, Bool.true_or] at hi; exact hi.symm
    clear hi
    ((repeat' (((repeat ((conv => whnf); first | refine brT ?_ | refine brF ?_)); conv => whnf); first | (refine And.intro ?_ ?_ <;> (intro h; rw [h]; revert h; intro _)) | (refine Exists.intro true (And.intro (a := drawB _ _ = true) (by kernel_rfl) ?_)) | (refine Exists.intro _ (And.intro (h2) ?_)))); all_goals ((repeat ((conv => whnf); first | refine brT ?_ | refine brF ?_)); conv => whnf))
    all_goals first
      | (subst hK
         refine round_end (k + 1) ⟨hlt, skip (by simp_all [notB])⟩ (by omega) ⟨?_, ⟨rfl, trivial⟩, rfl, rfl⟩
         ((repeat ((conv => whnf); first | refine ⟨e, ?_⟩ | refine ⟨rfl, ?_⟩)); trivial))
      | (subst hK
         ((repeat ((conv => whnf); first | refine brT ?_ | refine brF ?_)); conv => whnf)
         refine fin ?_
         exact (done (by simp_all [notB])).symm)
  · have h4 : k = us.length := by rw [ltI_f] at g1; omega
    subst h4
    subst hK
    rw [List.drop_length] at hi
    ((repeat ((conv => whnf); first | refine brT ?_ | refine brF ?_)); conv => whnf)
    refine fin ?_
    exact hi
end Go.Proofs.YtgkjafmmekjjlaaGreat

