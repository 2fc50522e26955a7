/- Contracts of functions of the program and of its model, told over readings. -/
import Derived.Test.YtpfipmjmblgjfaaChecked
import Derived.WalkKit
import Derived.Lib.Walk
import Derived.Lib.Builder
import Derived.Lib.AppendStr
import Derived.Lib.UnsafeStr
import Derived.Laws.Externs
import Derived.KernelRfl
import Derived.OwnWalk
import Derived.Test.YtpfipmjmblgjfaaRows
import Derived.Test.YtpfipmjmblgjfaaHLgN
import Derived.Test.YtpfipmjmblgjfaaHLgU
import Derived.Test.YtpfipmjmblgjfaaHLgMF
import Derived.Shelf.RegionOpenPlain
import Derived.Laws.RangeAny
import Derived.Test.YtpfipmjmblgjfaaHLgWS
set_option linter.unusedVariables false
set_option linter.unusedSimpArgs false
/-! strings.Builder's check that it has not been copied, walked at this program. -/
namespace Go.Proofs.SB
open Go.RowKit
set_option maxHeartbeats 2000000
set_option maxRecDepth 100000
theorem twoCells : (Try.prog.info? 173).map (·.size) = some 2 := by kernel_rfl
theorem liesThere : liesAt Try.prog Try.prog.depth 173 (2 / Try.prog.cellsOf 173) 0 173 1 = true := by kernel_rfl
theorem noEsc (args : Array Value) (w : World) : (callFunc 231 args).run Try.prog w = ((Extern.AbiNoEscape.same args).run Try.prog w).andThen fun v w' => .ok (.value v) w' :=
  run_callFunc_extern (fn := Try.f231) Try.func231 (by kernel_rfl) (by kernel_rfl) (by kernel_rfl) (by kernel_rfl) args w
/-- A known answer is taken over, and the walk goes on. -/
macro "taken" : tactic => `(tactic| (simp only [Result.andThen]; rw [Oper.upon_value]; go_wp2))
/-- Whether the builder bears no address yet or its own: behind the check it bears its own. -/
theorem checkCopy (b : Nat) (w : World) (q : Option Addr) (hq : q = none ∨ q = some ⟨b, 0, none⟩) (at0 : w.cell? ⟨b, 0, none⟩ = some (.pointer q)) (form : w.shape? b = some (173, 2)) (thawed : w.frozen? ⟨b, 0, none⟩ = false) :
    Calls Try.prog 213 #[.pointer (some ⟨b, 0, none⟩)] w fun e w' => e = .returned (.tuple #[]) ∧ w' = (match q with | none => w.setCell ⟨b, 0, none⟩ (.pointer (some ⟨b, 0, none⟩)) | some _ => w) := by
  obtain ⟨d, known, two⟩ := Option.map_eq_some_iff.1 twoCells
  have wide : d.size ≠ 0 := by rw [two]; decide
  rcases hq with rfl | rfl
  · go_enter Try.func213, Try.ntmps213
    go_wp2
    rw [Lib.run_to_unsafe w ⟨b, 0, none⟩ Try.underlying171 Try.underlying212 known wide form (by show 0 < 2; omega)]
    taken
    rw [noEsc, Lib.run_noEscape]
    taken
    rw [Lib.run_from_unsafe w ⟨b, 0, none⟩ Try.underlying212 Try.underlying171 known form liesThere]
    taken
    go_end0
    exact ⟨rfl, rfl⟩
  · go_enter Try.func213, Try.ntmps213
    go_wp2
    rw [Lib.run_neq_ptr_same w _ Try.underlying171 known]
    go_wp2
    go_end0
    exact ⟨rfl, rfl⟩
end Go.Proofs.SB

namespace Go.Proofs.Ytpfipmjmblgjfaa
open Go.Lg
def tyL : List (Nat × TyI) :=
  [(3, ⟨.int .i64, 1, 8⟩),
   (4, ⟨.bool, 1, 1⟩),
   (5, ⟨.int .u8, 1, 1⟩),
   (9, ⟨.str, 1, 16⟩),
   (21, ⟨.int .i32, 1, 4⟩),
   (22, ⟨.slice 3, 1, 24⟩),
   (24, ⟨.other, 1, 8⟩),
   (29, ⟨.struct [22, 22] [0, 1], 2, 48⟩),
   (32, ⟨.struct [22, 22] [0, 1], 2, 48⟩),
   (44, ⟨.slice 154, 1, 24⟩),
   (46, ⟨.struct [3, 44] [0, 1], 2, 32⟩),
   (50, ⟨.slice 112, 1, 24⟩),
   (52, ⟨.struct [3, 50] [0, 1], 2, 32⟩),
   (59, ⟨.slice 76, 1, 24⟩),
   (61, ⟨.slice 52, 1, 24⟩),
   (63, ⟨.slice 80, 1, 24⟩),
   (76, ⟨.struct [9, 3, 3, 44, 44] [0, 1, 2, 3, 4], 5, 80⟩),
   (80, ⟨.struct [9, 3, 3, 50, 50] [0, 1, 2, 3, 4], 5, 80⟩),
   (87, ⟨.slice 9, 1, 24⟩),
   (92, ⟨.slice 5, 1, 24⟩),
   (100, ⟨.other, 1, 8⟩),
   (101, ⟨.other, 1, 8⟩),
   (104, ⟨.other, 1, 8⟩),
   (112, ⟨.struct [3, 3] [0, 1], 2, 16⟩),
   (116, ⟨.slice 32, 1, 24⟩),
   (118, ⟨.slice 22, 1, 24⟩),
   (120, ⟨.other, 1, 8⟩),
   (122, ⟨.other, 1, 8⟩),
   (132, ⟨.other, 1, 8⟩),
   (136, ⟨.other, 1, 8⟩),
   (142, ⟨.other, 1, 8⟩),
   (150, ⟨.slice 4, 1, 24⟩),
   (154, ⟨.struct [3, 3] [0, 1], 2, 16⟩),
   (166, ⟨.other, 1, 8⟩),
   (173, ⟨.struct [171, 92] [0, 1], 2, 32⟩),
   (182, ⟨.struct [] [], 0, 0⟩),
   (183, ⟨.struct [] [], 0, 0⟩),
   (184, ⟨.struct [] [], 0, 0⟩),
   (185, ⟨.other, 1, 8⟩),
   (190, ⟨.struct [92, 3, 3] [0, 1, 2], 3, 40⟩),
   (195, ⟨.other, 1, 8⟩),
   (204, ⟨.int .u64, 1, 8⟩),
   (207, ⟨.other, 1, 8⟩),
   (210, ⟨.slice 50, 1, 24⟩),
   (215, ⟨.int .u32, 1, 4⟩)]
def zL : List (Nat × LV) :=
  [(3, (.int .i64 0)),
   (4, (.bool false)),
   (5, (.int .u8 0)),
   (9, (.str ⟨#[]⟩)),
   (21, (.int .i32 0)),
   (22, .nil),
   (24, .undef),
   (29, (.st [.nil, .nil])),
   (32, (.st [.nil, .nil])),
   (44, .nil),
   (46, (.st [(.int .i64 0), .nil])),
   (50, .nil),
   (52, (.st [(.int .i64 0), .nil])),
   (59, .nil),
   (61, .nil),
   (63, .nil),
   (76, (.st [(.str ⟨#[]⟩), (.int .i64 0), (.int .i64 0), .nil, .nil])),
   (80, (.st [(.str ⟨#[]⟩), (.int .i64 0), (.int .i64 0), .nil, .nil])),
   (87, .nil),
   (92, .nil),
   (100, .undef),
   (101, .undef),
   (104, .undef),
   (112, (.st [(.int .i64 0), (.int .i64 0)])),
   (116, .nil),
   (118, .nil),
   (120, .undef),
   (122, .undef),
   (132, .undef),
   (136, .undef),
   (142, .undef),
   (150, .nil),
   (154, (.st [(.int .i64 0), (.int .i64 0)])),
   (166, .undef),
   (182, (.st [])),
   (183, (.st [])),
   (184, (.st [])),
   (185, .undef),
   (190, (.st [.nil, (.int .i64 0), (.int .i64 0)])),
   (195, .undef),
   (204, (.int .u64 0)),
   (207, .undef),
   (210, .nil),
   (215, (.int .u32 0))]
def cL : List (Nat × List (Nat × Nat)) :=
  [(112, [(3, 0), (3, 1)]),
   (154, [(3, 0), (3, 1)])]
def mL : MTab :=
  [(182, "loop.example/g03221/impl.allows", 254),
   (182, "loop.example/g03221/impl.marked", 255),
   (183, "loop.example/g03221/impl.allows", 256),
   (183, "loop.example/g03221/impl.marked", 257),
   (184, "loop.example/g03221/impl.allows", 258),
   (184, "loop.example/g03221/impl.marked", 259)]
def bL : List (Nat × Nat) := [(173, 5)]
noncomputable def env : Env := { P := Try.prog, T := lookT tyL, Z := lookT zL, C := lookT cL, M := mL, bd := bL }
theorem tyL_ok : tyL.all (fun x => tyOKB Try.prog x.1 x.2) = true := by kernel_rfl
theorem zL_ok : zL.all (fun x => zOKB Try.prog x.1 x.2) = true := by kernel_rfl
theorem cL_ok : cL.all (fun x => cmpB Try.prog x.1 x.2) = true := by kernel_rfl
theorem mL_ok : mL.all (fun x => methB Try.prog x.1 x.2.1 x.2.2) = true := by kernel_rfl
theorem bL_ok : bL.all (fun x => bdOKB Try.prog x.1) = true := by kernel_rfl
/-- What a run may lean on of its world: nothing. -/
instance gi : GI := { low := 0, F := fun _ => True, keepF := fun _ _ _ => trivial }
theorem gi_of {W : World} (h : W.ShapedOpen Try.prog) : GI.I W.heap.size W := ⟨Nat.zero_le _, trivial⟩
theorem env_ok : EnvOK env := ⟨TabOK_of tyL_ok, ZOK_of zL_ok, by kernel_rfl, COK_of cL_ok, MOK_of mL_ok, BdOK_of bL_ok⟩
end Go.Proofs.Ytpfipmjmblgjfaa

set_option linter.unusedVariables false
set_option linter.unusedSimpArgs false
namespace Go.Proofs.SB
open Go.RowKit
set_option maxHeartbeats 2000000
set_option maxRecDepth 100000
theorem byteInfo : (Try.prog.info? 5).map (fun i => (i.zero, i.size, i.bytes)) = some (some (.int .u8 0), 1, 1) := by kernel_rfl
/-- A builder as it stands in memory: where, with which address, over which row. -/
def Stands (b : Nat) (q : Option Addr) (v : Value) (w : World) : Prop := w.heap[b]? = some (.cells #[.pointer q, v] 173 (0, 0))
theorem Stands.cell0 {b : Nat} {q : Option Addr} {v : Value} {w : World} (h : Stands b q v w) : w.cell? ⟨b, 0, none⟩ = some (.pointer q) := by unfold Stands at h; simp [World.cell?, h]
theorem Stands.cell1 {b : Nat} {q : Option Addr} {v : Value} {w : World} (h : Stands b q v w) : w.cell? ⟨b, 1, none⟩ = some v := by unfold Stands at h; simp [World.cell?, h]
theorem Stands.thawed {b : Nat} {q : Option Addr} {v : Value} {w : World} (h : Stands b q v w) (i : Nat) : w.frozen? ⟨b, i, none⟩ = false := Lib.frozen_of_heap h i
theorem Stands.form {b : Nat} {q : Option Addr} {v : Value} {w : World} (h : Stands b q v w) : w.shape? b = some (173, 2) := by unfold Stands at h; simp [World.shape?, h]
theorem Stands.lt {b : Nat} {q : Option Addr} {v : Value} {w : World} (h : Stands b q v w) : b < w.heap.size := (Array.getElem?_eq_some_iff.1 h).1
/-- The check tells the builder its own address and touches nothing else. -/
theorem checked (B b : Nat) (us : Bool) (v : Value) (w : World) (hB : B ≤ b) (h : Stands b (if us then some ⟨b, 0, none⟩ else none) v w) :
    Calls Try.prog 213 #[.pointer (some ⟨b, 0, none⟩)] w fun e w' => e = .returned (.tuple #[]) ∧ Stands b (some ⟨b, 0, none⟩) v w' ∧ Below B w w' ∧ (∀ k, k ≠ b → w'.heap[k]? = w.heap[k]?) ∧ w'.heap.size = w.heap.size := by
  cases us with
  | true =>
    refine (checkCopy b w _ (.inr rfl) h.cell0 h.form (h.thawed 0)).mono ?_
    rintro e w' ⟨rfl, rfl⟩
    exact ⟨rfl, h, Below.refl B _, fun _ _ => rfl, rfl⟩
  | false =>
    refine (checkCopy b w _ (.inl rfl) h.cell0 h.form (h.thawed 0)).mono ?_
    rintro e w' ⟨rfl, rfl⟩
    refine ⟨rfl, ?_, (Below.refl B w).setCell (p := ⟨b, 0, none⟩) hB _, fun k hk => Below.heap_setCell _ _ _ _ hk, by simp [World.setCell]⟩
    unfold Stands at h ⊢
    simp [World.setCell, Array.getElem?_modify, h]
end Go.Proofs.SB

set_option linter.unusedVariables false
set_option linter.unusedSimpArgs false
namespace Go.Proofs.SB
open Go.RowKit
set_option maxHeartbeats 2000000
set_option maxRecDepth 100000
theorem wpList_append_at {P : Program} (w : World) {ops : Array Oper} {rest : List Oper} {o : Oper} {a : Act} {Q : Exit → Act → World → Prop} (hgd : o.guard = none) (s x : Operand) (t : TypeId)
    (ho : o.op = .call { callee := .builtin .append, args := #[s, x], argTypes := #[t, t] }) (base : Nat) (e : TypeId) (i : TypeInfo) (z : Value) (size bytes : Nat) (ht : P.underlying t = some (.slice e)) (hi : P.info? e = some i) (hz : i.zero = some z)
    (hsize : i.size = size) (hby : i.bytes = bytes) (hzs : z.cells.size = size) (hsz : 0 < size) (v : Value) (n : Nat) (xs : List Value) (hs : a.eval s = v) (hown : w.ownsRow base e size v n xs)
    (ad : Addr) (m c : Nat) (news : List Value) (hx : a.eval x = .slice (some ad) m c) (hl : news.length = m * size) (hnews : ∀ j u, news[j]? = some u → w.cell? (ad.add j) = some u) (h1 : ∀ u ∈ news, u.oneCell' = true)
    (h63 : n + m ≤ maxLen) (hbytes : (n + m) * bytes ≤ 140737488355328) (hbase : base ≤ w.heap.size)
    (h : ∀ v' w', w'.ownsRow base e size v' (n + m) (xs ++ news) → w.grownBy w' v.ownBlock → (v'.ownBlock = v.ownBlock ∨ v'.ownBlock = some w.heap.size) → wpList P ops Q rest (a.put o.dst v') w') : wpList P ops Q (o :: rest) a w := by
  refine wpList_plain hgd fun K hK => ?_
  obtain ⟨v', w', hr, h2, h3, _, h5⟩ := run_append_own_at (P := P) w base t o.type e i z size bytes ht hi hz hsize hby hzs hsz v n xs hown ad m c news hl hnews h1 h63 hbytes hbase
  have hr2 : (execOp a.eval o).run P w = .ok (.value v') w' := by
    simp only [execOp, ho, resolve, invoke, builtin, Sem.run_bind, Sem.run_pure, Result.andThen_ok, List.map_toArray, List.map_cons, List.map_nil, hs, hx, hr]
  unfold Oper.wp
  rw [hr2, Oper.upon_value]
  exact hK _ _ (h v' w' h2 h3 h5)
/-- Where a row grows behind a fresh block, a builder over it stands as it stood. -/
theorem Stands.grown {b : Nat} {q : Option Addr} {v : Value} {w w' : World} {o : Obj} (h : Stands b q v w) (ne : v.ownBlock ≠ some b) (g : (w.alloc o).grownBy w' v.ownBlock) : Stands b q v w' :=
  ((g.block b (by simp; exact Nat.lt_succ_of_lt h.lt) fun e => ne e.symm).trans (Lib.alloc_old w o b h.lt)).trans h
theorem own_of_bk {w : World} {B e k n : Nat} {v : Value} {xs : List Value} (h : w.ownsRow B e k v n xs) (hv : Go.Lg.hasBk v = true) : v.ownBlock = some (Go.Lg.bk v) := by
  rcases h.2 with ⟨rfl, _⟩ | ⟨g, cap, cur, rfl, _⟩
  · simp [Go.Lg.hasBk] at hv
  · rfl
theorem some_row {w : World} {B e k n : Nat} {v : Value} {xs : List Value} (h : w.ownsRow B e k v (n + 1) xs) : ∃ g cap, v = .slice (some ⟨g, 0, none⟩) (n + 1) cap := by
  rcases h.2 with h | ⟨g, cap, _, e, _⟩
  · cases h.2
  · exact ⟨g, cap, e⟩
/-- WriteByte: the byte behind the others; nothing changes but the builder and its row, and that row lies where it lay or is new. -/
theorem writeByte (B b : Nat) (us : Bool) (bs : List Value) (c : Int) (w : World) (v : Value) (hB : B ≤ b) (st : Stands b (if us then some ⟨b, 0, none⟩ else none) v w) (own : w.ownsRow B 5 1 v bs.length bs) (ne : v.ownBlock ≠ some b) (room : bs.length + 1 ≤ 140737488355328) (base : B ≤ w.heap.size) :
    Calls Try.prog 187 #[.pointer (some ⟨b, 0, none⟩), .int .u8 c] w fun e w' => e = .returned .nilIface ∧ ∃ v', Stands b (some ⟨b, 0, none⟩) v' w' ∧ w'.ownsRow B 5 1 v' (bs.length + 1) (bs ++ [.int .u8 c]) ∧ v'.ownBlock ≠ some b ∧ Below B w w' ∧
      (∀ k, k < w.heap.size → k ≠ b → v.ownBlock ≠ some k → w'.heap[k]? = w.heap[k]?) ∧ ∀ k, v'.ownBlock = some k → v.ownBlock = some k ∨ w.heap.size ≤ k := by
  obtain ⟨bi, b1, b2, b3, b4⟩ := info_parts byteInfo
  go_enter Try.func187, Try.ntmps187
  go_wp2_with (go_at_call 213; refine (checked B b us v _ hB st).mono ?_)
  rintro e w1 ⟨rfl, st1, bel1, keep1, same1⟩
  have own1 : w1.ownsRow B 5 1 v bs.length bs := Go.Lg.ownsRow_of_block own fun hv => keep1 _ fun e => ne (by rw [← e]; exact own_of_bk own hv)
  have at0 := st1.cell0
  have at1 := st1.cell1
  go_wp2_with (at_builtin; refine wpList_append_at _ rfl _ _ 92 rfl B 5 bi (.int .u8 0) 1 1 Try.underlying92 b1 b2 b3 b4 rfl (by decide) _ _ _ rfl (own1.alloc _) ⟨w1.heap.size, 0, none⟩ 1 1 [.int .u8 c] ?val rfl ?lies ?one ?fits ?bytes ?low ?_)
  case val => simp [Act.eval]
  case lies =>
    intro j u hj
    cases j with
    | zero => simp at hj; rw [← hj]; simp [Addr.add]
    | succ j => simp at hj
  case one => simp [Value.oneCell']
  case fits => unfold maxLen; omega
  case bytes => omega
  case low => simp; omega
  intro v' w2 own2 grown place
  have st2 := st1.grown ne grown
  obtain ⟨g, cap, rfl⟩ := some_row own2
  have at0' := st2.cell0
  have at1' := st2.cell1
  have th := st2.thawed 1
  go_wp2
  go_ret
  have put : Stands b (some ⟨b, 0, none⟩) (.slice (some ⟨g, 0, none⟩) (bs.length + 1) cap) (w2.setCell ⟨b, 1, none⟩ (.slice (some ⟨g, 0, none⟩) (bs.length + 1) cap)) := by
    unfold Stands at st2 ⊢
    simp [World.setCell, Array.getElem?_modify, st2]
  have apart := Lib.ownBlock_ne own2 st2 (by decide)
  refine ⟨rfl, _, put, ?_, apart, ?_, fun k hk hkb hkv => ?_, fun k hk => ?_⟩
  · exact own2.kept (row := some b) ⟨rfl, rfl, rfl, by simp [World.setCell], fun k _ hk => Below.heap_setCell _ _ _ _ (fun e => hk (by simp [e]))⟩ (Or.inr apart)
  · exact ((bel1.alloc (by omega) _).grown grown (by simp; omega) fun k hk => (own1.lt k hk).1).setCell (p := ⟨b, 1, none⟩) hB _
  · rw [Below.heap_setCell _ _ _ _ hkb, grown.block k (by simp; omega) (fun e => hkv e.symm), Lib.alloc_old w1 _ k (by omega)]
    exact keep1 k hkb
  · rcases place with h | h
    · exact .inl (by rw [← h]; exact hk)
    · rw [h] at hk
      simp at hk
      exact .inr (by omega)
end Go.Proofs.SB

namespace Go.Proofs.Ytpfipmjmblgjfaa
open Go.Lg Go.RowKit
set_option maxHeartbeats 1600000
set_option maxRecDepth 10000
set_option linter.unusedVariables false
set_option linter.unusedSimpArgs false

theorem own_feet {v : Value} {k : Nat} (h : v.ownBlock = some k) : k ∈ feet v := mem_feet.2 (bk_own h)
theorem feet_own {w : World} {B e n : Nat} {v : Value} {m : Nat} {xs : List Value} (ho : w.ownsRow B e n v m xs) {k : Nat} (h : k ∈ feet v) : v.ownBlock = some k := by
  rcases ho.2 with ⟨rfl, _⟩ | ⟨g, cap, cur, rfl, _⟩
  · simp [feet, hasBk] at h
  · simp [feet, hasBk, bk] at h
    subst h; rfl
theorem bytC_snoc (l : List UInt8) (c : UInt8) : bytC (l ++ [c]) = bytC l ++ [.int .u8 c.toNat] := by simp [bytC]
theorem bytC_len (l : List UInt8) : (bytC l).length = l.length := by simp [bytC]
theorem writeByte_h (us : Bool) (l : List UInt8) (c : UInt8) (hl : l.length + 1 ≤ 140737488355328) :
    HSpec env.P 187 [.hp 0 0 [], .int .u8 c.toNat] [.bld 173 5 us l] (.lit .nilIface) [.bld 173 5 true (l ++ [c])] := by
  unfold HSpec
  refine ⟨Try.call187, fun X B w vs pl g hsz hargs => ?_⟩
  obtain ⟨v0, v1, rfl⟩ : ∃ v0 v1, vs = #[v0, v1] := by
    obtain ⟨vl⟩ := vs
    match vl, hsz with
    | [a, b], _ => exact ⟨a, b, rfl⟩
  have a0 := hargs 0 _ v0 rfl rfl
  have a1 := hargs 1 _ v1 rfl rfl
  simp only [RT, RT1, RC] at a0 a1
  obtain ⟨q, hq, hq2⟩ := a0
  simp only [List.cons.injEq, and_true] at hq a1
  subst hq; subst a1
  obtain ⟨b, v, e1, hB, hheap, hown, hfp⟩ := g.ok 0 _ rfl
  have hv0 : v0 = .pointer (some ⟨b, 0, none⟩) := by rw [← e1]; exact hq2.2.2.2.2 _ rfl trivial
  subst hv0
  have hfeet : (Blk.bld 173 5 us l).feet (pl 0) = [b] ++ feet v := by
    show Go.Lg.feet (pl 0).v ++ (pl 0).fp = _
    rw [hfp, e1]; rfl
  have hnd := g.nd 0 _ rfl trivial
  rw [hfeet] at hnd
  have hap : ∀ k ∈ [b] ++ feet v, ¬ X k := fun k hk => g.apart 0 _ k rfl trivial (by rw [hfeet]; exact hk)
  have hne : v.ownBlock ≠ some b := fun h => by
    have := own_feet h
    simp only [List.singleton_append, List.nodup_cons] at hnd
    exact hnd.1 this
  have hw : w.heap[b]? = some (.cells #[.pointer (if us then some ⟨b, 0, none⟩ else none), v] 173 (0, 0)) := hheap
  have hown' : w.ownsRow B 5 1 v (bytC l).length (bytC l) := by rw [bytC_len]; exact hown
  have hbase : B ≤ w.heap.size := g.base.1
  refine (SB.writeByte B b us (bytC l) c.toNat w v hB hw hown' hne (by rw [bytC_len]; exact hl) hbase).mono ?_
  rintro e w' ⟨rfl, v2, hw2, hown2, hne2, hbel, hfr, hnew⟩
  rw [← bytC_snoc, bytC_len] at hown2
  have hown2 : w'.ownsRow B 5 1 v2 (l ++ [c]).length (bytC (l ++ [c])) := by rw [List.length_append]; exact hown2
  have hfv : ∀ k, k ∈ feet v2 → v.ownBlock = some k ∨ w.heap.size ≤ k := fun k hk => hnew k (feet_own hown2 hk)
  have hsz2 : w.heap.size ≤ w'.heap.size := hbel.size
  have hltb : b < w.heap.size := by
    rcases Nat.lt_or_ge b w.heap.size with h | h
    · exact h
    · simp [Array.getElem?_eq_none h] at hw
  refine ⟨.nilIface, fun _ => ⟨.pointer (some ⟨b, 0, none⟩), feet v2⟩, rfl, ⟨hbel, g.base, ?_, ?_, ?_, g.xlt, ?_, ?_⟩, ?_, ⟨hsz2, ?_, ?_, ?_, ?_⟩⟩
  · intro id blk hb
    match id, hb with
    | 0, hb =>
      simp only [List.getElem?_cons_zero, Option.some.injEq] at hb
      subst hb
      exact ⟨b, v2, rfl, hB, hw2, hown2, rfl⟩
    | id + 1, hb => simp at hb
  · intro i j bi bj k hi _ hj _ _ _
    match i, j, hi, hj with
    | 0, 0, _, _ => rfl
    | i + 1, _, hi, _ => simp at hi
    | 0, j + 1, _, hj => simp at hj
  · intro i bi hi _
    match i, hi with
    | 0, hi =>
      simp only [List.getElem?_cons_zero, Option.some.injEq] at hi
      subst hi
      show ([b] ++ feet v2).Nodup
      simp only [List.singleton_append, List.nodup_cons]
      exact ⟨fun h => hne2 (feet_own hown2 h), feet_nodup v2⟩
    | i + 1, hi => simp at hi
  · intro k hk
    have hlt := g.xlt k hk
    exact hfr k hlt (fun e => hap k (by subst e; simp) hk) (fun e => hap k (by simp [own_feet e]) hk)
  · intro id blk k hb _ hk
    match id, hb with
    | 0, hb =>
      simp only [List.getElem?_cons_zero, Option.some.injEq] at hb
      subst hb
      have hk' : k ∈ [b] ++ feet v2 := hk
      rcases List.mem_append.1 hk' with hk' | hk'
      · exact hap k (List.mem_append_left _ hk')
      · rcases hfv k hk' with h | h
        · exact hap k (List.mem_append_right _ (own_feet h))
        · intro hX
          have := g.xlt k hX
          have h2 : k < w.heap.size := this
          omega
    | id + 1, hb => simp at hb
  · exact ⟨rfl, rfl⟩
  · intro k hk hno
    have hno' : ¬ owned X [.bld 173 5 us l] pl k := hno
    refine hfr k hk (fun e => hno' (.inr ⟨0, _, rfl, trivial, by rw [hfeet]; simp [e]⟩)) (fun e => hno' (.inr ⟨0, _, rfl, trivial, by rw [hfeet]; simp [own_feet e]⟩))
  · intro k hk ho
    have hk' : k < w.heap.size := hk
    rcases ho with ho | ⟨id, blk, hb, _, hm⟩
    · exact .inl ho
    · match id, hb with
      | 0, hb =>
        simp only [List.getElem?_cons_zero, Option.some.injEq] at hb
        subst hb
        have hm' : k ∈ [b] ++ feet v2 := hm
        refine .inr ⟨0, _, rfl, trivial, ?_⟩
        rw [hfeet]
        rcases List.mem_append.1 hm' with h | h
        · exact List.mem_append_left _ h
        · rcases hfv k h with h | h
          · exact List.mem_append_right _ (own_feet h)
          · omega
      | id + 1, hb => simp at hb
  · rintro id n u ⟨h1, h2, _⟩
    refine ⟨h1, h2, fun bb xs hb hr => ?_⟩
    match id, hb with
    | 0, hb =>
      simp only [List.getElem?_cons_zero, Option.some.injEq] at hb
      subst hb
      exact hr.elim
    | id + 1, hb => simp at hb
  · rintro id n p u ⟨h1, h2, _, _, h5⟩
    have hid : id = 0 := by simp at h1; exact h1
    subst hid
    refine ⟨h1, h2, fun c o hb => ?_, fun bb xs o hb hr => ?_, fun blk hb _ => ?_⟩
    · simp at hb
    · simp only [List.getElem?_cons_zero, Option.some.injEq] at hb
      subst hb
      exact hr.elim
    · have := h5 _ rfl trivial
      rw [this, e1]
end Go.Proofs.Ytpfipmjmblgjfaa

set_option linter.unusedVariables false
set_option linter.unusedSimpArgs false
namespace Go.Proofs.SB
open Go.RowKit
set_option maxHeartbeats 2000000
set_option maxRecDepth 100000
theorem oneCellByte : Try.prog.cellsOf 5 = 1 := by kernel_rfl
/-- String of a builder that holds a byte: its bytes, frozen where they lie; nothing else changes. -/
theorem stringRun (b : Nat) (q : Option Addr) (v : Value) (B : Nat) (l : List UInt8) (w : World) (st : Stands b q v w) (own : w.ownsRow B 5 1 v l.length (Go.Lg.bytC l)) (full : l ≠ []) :
    ∃ g, v.ownBlock = some g ∧ B ≤ g ∧ l.length ≤ maxLen ∧ Calls Try.prog 188 #[.pointer (some ⟨b, 0, none⟩)] w fun e w' => e = .returned (.string ⟨l.toArray⟩) ∧ w' = w.drew.freeze ⟨g, 0, none⟩ l.length := by
  have pos : 0 < l.length := List.length_pos_iff.2 full
  rcases own.2 with ⟨_, z⟩ | ⟨g, cap, cur, rfl, low, row, le, most, _, _⟩
  · omega
  refine ⟨g, rfl, low, by omega, ?_⟩
  have drawn : Stands b q (.slice (some ⟨g, 0, none⟩) l.length cap) w.drew := st
  have at1 := drawn.cell1
  have lies : w.drew.heap[g]? = some (.cells cur 5 (0, 0)) := row
  have bytes : ∀ (j : Nat) (x : UInt8), l[j]? = some x → w.drew.cell? ((⟨g, 0, none⟩ : Addr).add j) = some (.int .u8 x.toNat) := fun j x hx => by
    have c := own.cells (g := g) rfl j (.int .u8 x.toNat) (by simp [Go.Lg.bytC, hx])
    exact c
  have first : (Builtin.unsafeSliceData_ #[92] 201 #[.slice (some ⟨g, 0, none⟩) l.length cap]).run Try.prog w.drew = .ok (.pointer (some ⟨g, 0, none⟩)) w.drew := Lib.run_unsafeSliceData_row _ _ _ _ _ _ (by omega)
  have whole : (Builtin.unsafeString_ #[201, 3] 9 #[.pointer (some ⟨g, 0, none⟩), .int .i64 l.length]).run Try.prog w.drew = .ok (.string ⟨l.toArray⟩) (w.drew.freeze ⟨g, 0, none⟩ l.length) :=
    Lib.run_unsafeString_row w.drew 201 3 9 5 Try.underlying201 oneCellByte g cur.size (by simp [World.shape?, lies]) l full (by omega) (by unfold maxLen at most; omega) bytes
  go_enter Try.func188, Try.ntmps188
  go_wp2
  go_region
  all_goals (go_wp2; go_ret; exact ⟨rfl, rfl⟩)
end Go.Proofs.SB

namespace Go.Proofs.Ytpfipmjmblgjfaa
open Go.Lg Go.RowKit
set_option maxHeartbeats 1600000
set_option maxRecDepth 10000
set_option linter.unusedVariables false
set_option linter.unusedSimpArgs false

theorem freeze_other (w : World) (g n k : Nat) (h : k ≠ g) : (w.drew.freeze ⟨g, 0, none⟩ n).heap[k]? = w.heap[k]? := by
  unfold World.freeze
  split
  · rfl
  · simp only [Array.getElem?_modify]
    rw [if_neg (fun e => h e.symm)]
    rfl
theorem freeze_size (w : World) (g n : Nat) : (w.drew.freeze ⟨g, 0, none⟩ n).heap.size = w.heap.size := by
  unfold World.freeze
  split
  · rfl
  · simp
theorem string_h (us : Bool) (l : List UInt8) (h0 : l ≠ []) :
    HSpec env.P 188 [.hp 0 0 []] [.bld 173 5 us l] (.str ⟨l.toArray⟩) [.dead] := by
  unfold HSpec
  refine ⟨Try.call188, fun X B w vs pl g hsz hargs => ?_⟩
  obtain ⟨v0, rfl⟩ : ∃ v0, vs = #[v0] := by
    obtain ⟨vl⟩ := vs
    match vl, hsz with
    | [a], _ => exact ⟨a, rfl⟩
  have a0 := hargs 0 _ v0 rfl rfl
  simp only [RT, RT1, RC] at a0
  obtain ⟨q, hq, hq2⟩ := a0
  simp only [List.cons.injEq, and_true] at hq
  subst hq
  obtain ⟨b, v, e1, hB, hheap, hown, hfp⟩ := g.ok 0 _ rfl
  have hv0 : v0 = .pointer (some ⟨b, 0, none⟩) := by rw [← e1]; exact hq2.2.2.2.2 _ rfl trivial
  subst hv0
  have hfeet : (Blk.bld 173 5 us l).feet (pl 0) = [b] ++ feet v := by
    show Go.Lg.feet (pl 0).v ++ (pl 0).fp = _
    rw [hfp, e1]; rfl
  have hap : ∀ k ∈ [b] ++ feet v, ¬ X k := fun k hk => g.apart 0 _ k rfl trivial (by rw [hfeet]; exact hk)
  have hw : w.heap[b]? = some (.cells #[.pointer (if us then some ⟨b, 0, none⟩ else none), v] 173 (0, 0)) := hheap
  obtain ⟨gg, hog, hbg, hlm, hrun⟩ := SB.stringRun b _ v B l w hw hown h0
  have hgf : gg ∈ [b] ++ feet v := List.mem_append_right _ (own_feet hog)
  refine hrun.mono ?_
  rintro e w' ⟨rfl, rfl⟩
  have hbel : Below B w (w.drew.freeze ⟨gg, 0, none⟩ l.length) := Lib.below_freeze (Below.drew (Below.refl B w)) (p := ⟨gg, 0, none⟩) hbg _
  refine ⟨.string ⟨l.toArray⟩, fun _ => default, rfl, ⟨hbel, g.base, ?_, ?_, ?_, g.xlt, ?_, ?_⟩, ?_, ⟨by show w.heap.size ≤ (w.drew.freeze ⟨gg, 0, none⟩ l.length).heap.size; rw [freeze_size]; exact Nat.le_refl _, ?_, ?_, ?_, ?_⟩⟩
  · intro id blk hb
    match id, hb with
    | 0, hb =>
      simp only [List.getElem?_cons_zero, Option.some.injEq] at hb
      subst hb; trivial
    | id + 1, hb => simp at hb
  · intro i j bi bj k hi li
    match i, hi with
    | 0, hi =>
      simp only [List.getElem?_cons_zero, Option.some.injEq] at hi
      subst hi; exact li.elim
    | i + 1, hi => simp at hi
  · intro i bi hi li
    match i, hi with
    | 0, hi =>
      simp only [List.getElem?_cons_zero, Option.some.injEq] at hi
      subst hi; exact li.elim
    | i + 1, hi => simp at hi
  · intro k hk
    exact freeze_other w gg l.length k fun e => hap gg hgf (by rw [← e]; exact hk)
  · intro id blk k hb li
    match id, hb with
    | 0, hb =>
      simp only [List.getElem?_cons_zero, Option.some.injEq] at hb
      subst hb; exact li.elim
    | id + 1, hb => simp at hb
  · refine ⟨rfl, ?_⟩
    show l.toArray.size ≤ maxLen
    simp; omega
  · intro k hk hno
    have hno' : ¬ owned X [.bld 173 5 us l] pl k := hno
    exact freeze_other w gg l.length k fun e => hno' (.inr ⟨0, _, rfl, trivial, by rw [hfeet, e]; exact hgf⟩)
  · intro k hk ho
    rcases ho with ho | ⟨id, blk, hb, li, _⟩
    · exact .inl ho
    · match id, hb with
      | 0, hb =>
        simp only [List.getElem?_cons_zero, Option.some.injEq] at hb
        subst hb; exact li.elim
      | id + 1, hb => simp at hb
  · rintro id n u ⟨h1, h2, _⟩
    refine ⟨h1, h2, fun bb xs hb hr => ?_⟩
    match id, hb with
    | 0, hb =>
      simp only [List.getElem?_cons_zero, Option.some.injEq] at hb
      subst hb
      exact hr.elim
    | id + 1, hb => simp at hb
  · rintro id n p u ⟨h1, h2, _, _, h5⟩
    have hid : id = 0 := by simp at h1; exact h1
    subst hid
    refine ⟨h1, h2, fun c o hb => ?_, fun bb xs o hb hr => ?_, fun blk hb hwh => ?_⟩
    · simp at hb
    · simp only [List.getElem?_cons_zero, Option.some.injEq] at hb
      subst hb
      exact hr.elim
    · simp only [List.getElem?_cons_zero, Option.some.injEq] at hb
      subst hb
      exact hwh.elim
end Go.Proofs.Ytpfipmjmblgjfaa

namespace Go.Proofs.Ytpfipmjmblgjfaa
open Go.Lg
set_option maxHeartbeats 400000
set_option linter.unusedVariables false
set_option linter.unusedSimpArgs false


structure Per where
  name : ByteArray
  sex : Int
  father : Int
  mother : Int
  born : Int
  died : Int
def Per.lv (p : Per) : LV := .st [.str p.name, .int .i64 p.sex, .int .i64 p.father, .int .i64 p.mother, .int .i64 p.born, .int .i64 p.died]
def Per.eq (p q : Per) : Bool := eqS p.name q.name && (eqI p.sex q.sex && (eqI p.father q.father && (eqI p.mother q.mother && (eqI p.born q.born && (eqI p.died q.died && true)))))
structure Uni where
  husband : Int
  wife : Int
  since : Int
  till : Int
def Uni.lv (p : Uni) : LV := .st [.int .i64 p.husband, .int .i64 p.wife, .int .i64 p.since, .int .i64 p.till]
def Uni.eq (p q : Uni) : Bool := eqI p.husband q.husband && (eqI p.wife q.wife && (eqI p.since q.since && (eqI p.till q.till && true)))

def eqList {α : Type} (eq : α → α → Bool) : List α → List α → Bool
  | [], [] => true
  | x :: xs, y :: ys => eq x y && eqList eq xs ys
  | _, _ => false

def eqTo {α : Type} (eq : α → α → Bool) (xs ys : List α) (k : Nat) : Prop := ∀ j x y, j < k → xs[j]? = some x → ys[j]? = some y → eq x y = true
theorem eqTo.succ {α : Type} {eq : α → α → Bool} {xs ys : List α} {k : Nat} (h : eqTo eq xs ys k) {x y : α} (hx : xs[k]? = some x) (hy : ys[k]? = some y) (e : eq x y = true) : eqTo eq xs ys (k + 1) := by
  intro j x' y' hj hx' hy'
  by_cases ej : j = k
  · subst ej
    rw [hx] at hx'
    rw [hy] at hy'
    cases hx'; cases hy'
    exact e
  · exact h j x' y' (by omega) hx' hy'
theorem eqTo.all {α : Type} {eq : α → α → Bool} : ∀ {xs ys : List α}, xs.length = ys.length → eqTo eq xs ys xs.length → eqList eq xs ys = true
  | [], [], _, _ => rfl
  | [], _ :: _, hl, _ => by simp at hl
  | _ :: _, [], hl, _ => by simp at hl
  | x :: xs, y :: ys, hl, h => by
    simp only [eqList, Bool.and_eq_true]
    refine ⟨h 0 x y (by simp) rfl rfl, eqTo.all (by simpa using hl) fun j x' y' hj hx hy => h (j + 1) x' y' (by simpa using hj) (by simpa using hx) (by simpa using hy)⟩
theorem eqList_no {α : Type} {eq : α → α → Bool} : ∀ {xs ys : List α} {k : Nat} {x y : α}, xs[k]? = some x → ys[k]? = some y → eq x y = false → eqList eq xs ys = false
  | [], _, k, _, _, h, _, _ => by simp at h
  | _ :: _, [], k, _, _, _, h, _ => by simp at h
  | a :: xs, b :: ys, 0, x, y, h1, h2, h3 => by simp at h1 h2; subst h1; subst h2; simp [eqList, h3]
  | a :: xs, b :: ys, k + 1, x, y, h1, h2, h3 => by
    simp only [eqList]
    rw [eqList_no (k := k) (by simpa using h1) (by simpa using h2) h3]
    simp
theorem eqList_len {α : Type} {eq : α → α → Bool} : ∀ {xs ys : List α}, xs.length ≠ ys.length → eqList eq xs ys = false
  | [], [], h => absurd rfl h
  | [], _ :: _, _ => rfl
  | _ :: _, [], _ => rfl
  | x :: xs, y :: ys, h => by simp only [eqList]; rw [eqList_len (by simpa using h)]; simp

def famLV (ps : List Per) (us : List Uni) : LV := .st [.sl (ps.map Per.lv), .sl (us.map Uni.lv)]

theorem eqI_len {α : Type} {xs ys : List α} {f : α → LV} (h : eqI ((xs.map f).length : Int) ((ys.map f).length : Int) = true) : xs.length = ys.length := by
  rw [eqI_t] at h; simp at h; omega
theorem eqI_nolen {α : Type} {xs ys : List α} {f : α → LV} (h : eqI ((xs.map f).length : Int) ((ys.map f).length : Int) = false) : xs.length ≠ ys.length := by
  rw [eqI_f] at h; simp at h; omega

end Go.Proofs.Ytpfipmjmblgjfaa
namespace Go.Proofs.Ytpfipmjmblgjfaa
open Go.Lg
set_option maxHeartbeats 400000
set_option maxRecDepth 10000
set_option linter.unusedVariables false
set_option linter.unusedSimpArgs false

def szPer (n : Int) (p : Per) : Int := match ltI (IntKind.i64.wrap (n - (p.name.size : Int))) 0 with | true => -1 | false => IntKind.i64.wrap (n - (p.name.size : Int))
def szUnis (n : Int) (us : List Uni) : Int := match ltI (IntKind.i64.wrap (n - (us.length : Int))) 0 with | true => -1 | false => IntKind.i64.wrap (n - (us.length : Int))
def szFold : Int → List Per → Int
  | n, [] => n
  | n, p :: ps => match ltI (szPer n p) 0 with | true => -1 | false => szFold (szPer n p) ps
def szPers (n : Int) (ps : List Per) : Int := match ltI (IntKind.i64.wrap (n - (ps.length : Int))) 0 with | true => -1 | false => szFold (IntKind.i64.wrap (n - (ps.length : Int))) ps

def szFam (n : Int) (ps : List Per) (us : List Uni) : Int := match ltI (szPers n ps) 0 with
  | true => -1
  | false => match ltI (szUnis (szPers n ps) us) 0 with | true => -1 | false => szUnis (szPers n ps) us
end Go.Proofs.Ytpfipmjmblgjfaa
namespace Go.Proofs.Ytpfipmjmblgjfaa
open Go.Lg
set_option maxHeartbeats 400000
set_option maxRecDepth 10000
set_option linter.unusedVariables false
set_option linter.unusedSimpArgs false

def eqFam (ps qs : List Per) (us vs : List Uni) : Bool := eqList Per.eq ps qs && eqList Uni.eq us vs
/-- A row that is filled from its head. -/
def fillLV {α : Type} (lv : α → LV) (z : LV) (ps : List α) (k : Nat) : List LV := (ps.take k).map lv ++ List.replicate (ps.length - k) z
theorem fill_len {α : Type} {lv : α → LV} {z : LV} {ps : List α} {k : Nat} (h : k ≤ ps.length) : (fillLV lv z ps k).length = ps.length := by simp [fillLV]; omega
theorem fill_get {α : Type} {lv : α → LV} {z : LV} {ps : List α} {k : Nat} (h : k < ps.length) : (fillLV lv z ps k)[k]? = some z := by
  unfold fillLV
  rw [List.getElem?_append_right (by simp; omega)]
  have : k - ((ps.take k).map lv).length = 0 := by simp; omega
  rw [this]
  have h2 : ps.length - k = (ps.length - k - 1) + 1 := by omega
  rw [h2, List.replicate_succ]
  rfl
theorem fill_set {α : Type} {lv : α → LV} {z : LV} {ps : List α} {k : Nat} (h : k < ps.length) : (fillLV lv z ps k).set k (lv ps[k]) = fillLV lv z ps (k + 1) := by
  apply List.ext_getElem?
  intro j
  unfold fillLV
  rw [List.getElem?_set]
  by_cases e : k = j
  · subst e
    have hl : k < ((ps.take k).map lv ++ List.replicate (ps.length - k) z).length := by simp; omega
    rw [if_pos rfl, if_pos hl, List.getElem?_append_left (by simp; omega)]
    simp [h]
  · rw [if_neg e]
    by_cases hj : j < k
    · rw [List.getElem?_append_left (by simp; omega), List.getElem?_append_left (by simp; omega)]
      simp [hj, show j < k + 1 by omega]
    · rw [List.getElem?_append_right (by simp; omega), List.getElem?_append_right (by simp; omega)]
      have e1 : ((ps.take k).map lv).length = k := by simp; omega
      have e2 : ((ps.take (k + 1)).map lv).length = k + 1 := by simp; omega
      rw [e1, e2]
      by_cases hj2 : j < ps.length
      · rw [List.getElem?_replicate, List.getElem?_replicate, if_pos (by omega), if_pos (by omega)]
      · rw [List.getElem?_replicate, List.getElem?_replicate, if_neg (by omega), if_neg (by omega)]
theorem fill_all {α : Type} {lv : α → LV} {z : LV} {ps : List α} : fillLV lv z ps ps.length = ps.map lv := by simp [fillLV]

def zPer : LV := .st [.str ⟨#[]⟩, .int .i64 0, .int .i64 0, .int .i64 0, .int .i64 0, .int .i64 0]
def zUni : LV := .st [.int .i64 0, .int .i64 0, .int .i64 0, .int .i64 0]
end Go.Proofs.Ytpfipmjmblgjfaa
namespace Go.Proofs.Ytpfipmjmblgjfaa
open Go.Lg
set_option maxHeartbeats 400000
set_option maxRecDepth 10000
set_option linter.unusedVariables false
set_option linter.unusedSimpArgs false

structure FamOK (ps : List Per) (us : List Uni) : Prop where
  p : ps.length ≤ Go.maxLen
  u : us.length ≤ Go.maxLen
  n : ∀ p ∈ ps, p.name.size ≤ Go.maxLen

theorem wrap_sub {n : Int} {k : Nat} (h0 : 0 ≤ n) (h1 : n ≤ 1048576) (hk : k ≤ Go.maxLen) : IntKind.i64.wrap (n - (k : Int)) = n - k := by
  unfold Go.maxLen at hk
  exact wrap64 (by omega) (by omega)
theorem szPer_le {n : Int} {p : Per} (h0 : 0 ≤ n) (h1 : n ≤ 1048576) (hp : p.name.size ≤ Go.maxLen) : szPer n p ≤ n := by
  unfold szPer
  rw [wrap_sub h0 h1 hp]
  split <;> omega
theorem szFold_le : ∀ {ps : List Per} {n : Int}, 0 ≤ n → n ≤ 1048576 → (∀ p ∈ ps, p.name.size ≤ Go.maxLen) → szFold n ps ≤ n
  | [], n, _, _, _ => Int.le_refl n
  | p :: ps, n, h0, h1, h => by
    have h2 := szPer_le h0 h1 (h p (by simp))
    unfold szFold
    split
    · omega
    · rename_i hh
      rw [ltI_f] at hh
      have := szFold_le (ps := ps) hh (by omega) (fun q hq => h q (List.mem_cons_of_mem _ hq))
      omega
theorem szPers_ok {ps : List Per} {n : Int} (h0 : 0 ≤ n) (h1 : n ≤ 1048576) (hl : ps.length ≤ Go.maxLen) (h : ∀ p ∈ ps, p.name.size ≤ Go.maxLen) (hk : 0 ≤ szPers n ps) : (ps.length : Int) ≤ n ∧ szPers n ps ≤ n := by
  unfold szPers at hk ⊢
  rw [wrap_sub h0 h1 hl] at hk ⊢
  split at hk
  · omega
  · rename_i hh
    rw [ltI_f] at hh
    have := szFold_le hh (by omega) h
    exact ⟨by omega, by omega⟩
theorem szUnis_ok {us : List Uni} {n : Int} (h0 : 0 ≤ n) (h1 : n ≤ 1048576) (hl : us.length ≤ Go.maxLen) (hk : 0 ≤ szUnis n us) : (us.length : Int) ≤ n ∧ szUnis n us ≤ n := by
  unfold szUnis at hk ⊢
  rw [wrap_sub h0 h1 hl] at hk ⊢
  split at hk
  · omega
  · rename_i hh
    rw [ltI_f] at hh
    exact ⟨by omega, by omega⟩
theorem szFam_ok {ps : List Per} {us : List Uni} {n : Int} (h0 : 0 ≤ n) (h1 : n ≤ 1048576) (hf : FamOK ps us) (hk : 0 ≤ szFam n ps us) :
    56 * ps.length ≤ 281474976710656 ∧ 32 * us.length ≤ 281474976710656 ∧ szFam n ps us ≤ n := by
  unfold szFam at hk ⊢
  split at hk
  · omega
  · rename_i hh
    rw [ltI_f] at hh
    obtain ⟨a1, a2⟩ := szPers_ok h0 h1 hf.p hf.n hh
    split at hk
    · omega
    · rename_i h3
      rw [ltI_f] at h3
      obtain ⟨b1, b2⟩ := szUnis_ok hh (by omega) hf.u h3
      exact ⟨by omega, by omega, by omega⟩

theorem eqS_refl (s : ByteArray) : eqS s s = true := by unfold eqS; simp
theorem eqI_refl (n : Int) : eqI n n = true := by unfold eqI; simp
theorem Per.eq_refl (p : Per) : p.eq p = true := by simp [Per.eq, eqS_refl, eqI_refl]
theorem Uni.eq_refl (p : Uni) : p.eq p = true := by simp [Uni.eq, eqI_refl]
theorem eqList_refl {α : Type} {eq : α → α → Bool} (h : ∀ x, eq x x = true) : ∀ xs, eqList eq xs xs = true
  | [] => rfl
  | x :: xs => by simp [eqList, h x, eqList_refl h xs]
theorem eqFam_refl (ps : List Per) (us : List Uni) : eqFam ps ps us us = true := by simp [eqFam, eqList_refl Per.eq_refl, eqList_refl Uni.eq_refl]

end Go.Proofs.Ytpfipmjmblgjfaa
namespace Go.Proofs.Ytpfipmjmblgjfaa
open Go.Lg
set_option maxHeartbeats 400000
set_option maxRecDepth 10000
set_option linter.unusedVariables false
set_option linter.unusedSimpArgs false

/-- impl.isEndYear -/
def endYear (y b : Int) : Bool := eqI y (-1) || (leI b y && leI y 9999)
/-- impl.livedTo -/
def livedTo (p : Per) (y : Int) : Bool := eqI p.died (-1) || leI y p.died
/-- impl.isParentOf -/
def parentOk (ps : List Per) (x sex born : Int) : Bool :=
  eqI x (-1) || (leI 0 x && match ps[x.toNat]? with
    | none => false
    | some q => eqI q.sex sex && (ltI q.born born && (match eqI sex 1 with | true => livedTo q (IntKind.i64.wrap (born - 1)) | false => livedTo q born)))
end Go.Proofs.Ytpfipmjmblgjfaa
namespace Go.Proofs.Ytpfipmjmblgjfaa
open Go.Lg
set_option maxHeartbeats 400000
set_option maxRecDepth 10000
set_option linter.unusedVariables false
set_option linter.unusedSimpArgs false

/-- The first of that name. -/
def findFrom (n : ByteArray) : Nat → List Per → Option Nat
  | _, [] => none
  | i, p :: ps => match eqS p.name n with | true => some i | false => findFrom n (i + 1) ps
def foundLV : Option Nat → LV
  | some i => .tup [.int .i64 (i : Int), .bool true]
  | none => .tup [.int .i64 0, .bool false]

end Go.Proofs.Ytpfipmjmblgjfaa
namespace Go.Proofs.Ytpfipmjmblgjfaa
open Go.Lg
set_option maxHeartbeats 400000
set_option linter.unusedVariables false
set_option linter.unusedSimpArgs false

theorem l1In_spec (x a b : Int) : FSpec env.P 104 [.int .i64 x, .int .i64 a, .int .i64 b] (.bool (leI a x && leI x b)) := by
  refine FSpec_of_code env_ok (fn := Try.f104) Try.func104 rfl Try.call104 _ _ ?_
  conv => whnf
  refine ⟨fun h => ?_, fun h => ?_⟩ <;> rw [h] <;> conv => whnf
  · repeat (refine brT ?_; conv => whnf)
    exact fin rfl
  · repeat (refine brF ?_; conv => whnf)
    exact fin rfl

def low (c : UInt8) : Bool := !(ltI (c.toNat : Int) 97 || ltI 122 (c.toNat : Int))
def lowTo (s : ByteArray) (k : Nat) : Prop := ∀ j (h : j < s.size), j < k → low s[j] = true
def allLow (s : ByteArray) : Bool := s.data.toList.all low
def isName (s : ByteArray) : Bool := allLow s && (leI 1 (s.size : Int) && leI (s.size : Int) 12)

theorem lowTo.succ {s : ByteArray} {k : Nat} (h : lowTo s k) (hk : k < s.size) (hl : low s[k] = true) : lowTo s (k + 1) := by
  intro j hj hjk
  by_cases e : j = k
  · subst e; exact hl
  · exact h j hj (by omega)
theorem lowTo.all {s : ByteArray} {k : Nat} (h : lowTo s k) (hk : s.size ≤ k) : allLow s = true := by
  unfold allLow
  rw [List.all_eq_true]
  intro c hc
  obtain ⟨j, hj, rfl⟩ := List.mem_iff_getElem.1 hc
  have hj' : j < s.size := by simpa using hj
  exact h j hj' (by omega)
theorem isName_no {s : ByteArray} {k : Nat} (hk : k < s.size) (hl : low s[k] = false) : isName s = false := by
  have : allLow s = false := by
    unfold allLow
    rw [List.all_eq_false]
    exact ⟨s[k], by exact Array.getElem_mem_toList _, by simp [hl]⟩
  unfold isName; rw [this]; rfl

theorem isName_spec (s : ByteArray) : FSpec env.P 191 [.str s] (.bool (isName s)) := by
  refine FSpec_of_code env_ok (fn := Try.f191) Try.func191 rfl Try.call191 _ _ ?_
  conv => whnf
  refine loop_rule (α := Nat) (fun k => [(3, .int .i64 (k : Int))]) (fun _ => []) (fun k => s.size - k) (fun k => k ≤ s.size ∧ lowTo s k) 0 ⟨Nat.zero_le _, fun _ _ h => absurd h (Nat.not_lt_zero _)⟩ ?_ ?_
  · refine ⟨?_, trivial, rfl, rfl⟩
    repeat ((conv => whnf); refine ⟨rfl, ?_⟩)
    trivial
  · rintro k ⟨hk, hlow⟩
    conv => whnf
    intro hs
    conv => whnf
    refine ⟨fun h => ?_, fun h => ?_⟩
    · rw [h]
      have hlt : k < s.size := by rw [ltI_t] at h; omega
      conv => whnf
      refine ⟨k, hlt, rfl, ?_⟩
      conv => whnf
      refine ⟨fun h1 => ?_, fun h1 => ?_⟩
      · rw [h1]
        have hno : false = isName s := (isName_no hlt (by simp [low, h1])).symm
        repeat ((conv => whnf); first | refine brT ?_ | refine brF ?_)
        exact fin hno
      · rw [h1]
        repeat ((conv => whnf); first | refine brT ?_ | refine brF ?_)
        refine ⟨k, hlt, rfl, ?_⟩
        repeat ((conv => whnf); first | refine brT ?_ | refine brF ?_)
        refine ⟨fun h2 => ?_, fun h2 => ?_⟩
        · rw [h2]
          have hno : false = isName s := (isName_no hlt (by simp [low, h1, h2])).symm
          repeat ((conv => whnf); first | refine brT ?_ | refine brF ?_)
          exact fin hno
        · rw [h2]
          have hl := hlow.succ hlt (by simp [low, h1, h2])
          conv => whnf
          refine round_end (k + 1) ⟨hlt, hl⟩ (by omega) ⟨?_, trivial, rfl, rfl⟩
          have e := step_i hlt hs
          repeat ((conv => whnf); first | refine ⟨e, ?_⟩ | refine ⟨rfl, ?_⟩)
          trivial
    · rw [h]
      rw [ltI_f] at h
      conv => whnf
      intro _
      conv => whnf
      refine ⟨_, l1In_spec _ _ _, ?_⟩
      conv => whnf
      refine fin ?_
      unfold isName
      rw [hlow.all (by omega)]
      rfl
end Go.Proofs.Ytpfipmjmblgjfaa

namespace Go.Proofs.Ytpfipmjmblgjfaa
open Go.Lg
set_option maxHeartbeats 800000
set_option maxRecDepth 10000
set_option linter.unusedVariables false
set_option linter.unusedSimpArgs false

def iLV (n : Int) : LV := .int .i64 n
/-- k, k + 1, .. -/
def marks (k : Int) : Nat → List Int
  | 0 => []
  | n + 1 => marks k n ++ [k + n]
theorem marks_len (k : Int) : ∀ n, (marks k n).length = n
  | 0 => rfl
  | n + 1 => by simp [marks, marks_len k n]
theorem marks_get (k : Int) : ∀ (n i : Nat) (h : i < (marks k n).length), (marks k n)[i] = k + i
  | 0, i, h => by simp [marks] at h
  | n + 1, i, h => by
    simp only [marks]
    have hl := marks_len k n
    by_cases hi : i < n
    · rw [List.getElem_append_left (by omega)]
      exact marks_get k n i (by omega)
    · rw [List.getElem_append_right (by omega)]
      have : i = n := by simp [marks, hl] at h; omega
      subst this
      simp

def rowM (k : Int) (xs : List Int) (i : Nat) : List LV := (marks k i ++ xs.drop i).map iLV
theorem rowM_len {k : Int} {xs : List Int} {i : Nat} (h : i ≤ xs.length) : (rowM k xs i).length = xs.length := by simp [rowM, marks_len]; omega
theorem rowM_get {k : Int} {xs : List Int} {i : Nat} (h : i < xs.length) : (rowM k xs i)[i]? = some (.int .i64 xs[i]) := by
  unfold rowM
  rw [List.getElem?_map, List.getElem?_append_right (by rw [marks_len]; exact Nat.le_refl _), marks_len, Nat.sub_self, List.getElem?_drop, Nat.add_zero, List.getElem?_eq_getElem h]
  rfl
theorem rowM_set {k : Int} {xs : List Int} {i : Nat} (h : i < xs.length) : (rowM k xs i).set i (.int .i64 (k + i)) = rowM k xs (i + 1) := by
  unfold rowM
  rw [List.drop_eq_getElem_cons h, List.map_append, List.map_cons, List.set_append_right _ _ (by simp [marks_len])]
  simp [marks, marks_len, iLV]

/-- laws.markText -/
def digits (n : Nat) (acc : ByteArray) : ByteArray := if h : n = 0 then acc else digits (n / 10) (bytesOf [IntKind.u8.wrap (IntKind.i64.wrap (48 + (n : Int).tmod 10))] ++ acc)
termination_by n
decreasing_by omega
def mText (k : Nat) : ByteArray := if k = 0 then ⟨#[109, 48]⟩ else ⟨#[109]⟩ ++ digits k ⟨#[]⟩
theorem bytesOf1_size (n : Int) : (bytesOf [n]).size = 1 := by unfold bytesOf; rw [bytesOf_size]; rfl
theorem digits_zero (acc : ByteArray) : digits 0 acc = acc := by rw [digits]; simp
theorem digits_pos {n : Nat} (h : 0 < n) (acc : ByteArray) : digits n acc = digits (n / 10) (bytesOf [IntKind.u8.wrap (IntKind.i64.wrap (48 + (n : Int).tmod 10))] ++ acc) := by
  rw [digits, dif_neg (by omega)]
theorem markText_spec (k : Nat) (hk : k ≤ 4611686018427387904) : FSpec env.P 136 [.int .i64 (k : Int)] (.str (mText k)) := by
  refine FSpec_of_code env_ok (fn := Try.f136) Try.func136 rfl Try.call136 _ _ ?_
  ((repeat ((conv => whnf); first | refine brT ?_ | refine brF ?_)); conv => whnf)
  (refine ⟨fun h => ?_, fun h => ?_⟩ <;> rw [h])
  · have : k = 0 := by rw [leI_t] at h; omega
    subst this
    ((repeat ((conv => whnf); first | refine brT ?_ | refine brF ?_)); conv => whnf)
    exact fin (by simp [mText])
  have hpos : 0 < k := by rw [leI_f] at h; omega
  ((repeat ((conv => whnf); first | refine brT ?_ | refine brF ?_)); conv => whnf)
  refine loop_rule (α := Nat × ByteArray) (fun x => [(0, .int .i64 (x.1 : Int)), (3, .str x.2)]) (fun x => []) (fun x => x.1) (fun x => digits x.1 x.2 = digits k ⟨#[]⟩ ∧ 10 ^ x.2.size * x.1 ≤ k ∧ x.1 ≤ k ∧ x.2.size ≤ 20) (k, ⟨#[]⟩) ⟨rfl, by simp [ByteArray.size], Nat.le_refl _, by simp [ByteArray.size]⟩ ?_ ?_
  · refine ⟨?_, trivial, rfl, rfl⟩
    ((repeat ((conv => whnf); refine ⟨rfl, ?_⟩)); trivial)
  rintro ⟨n, acc⟩ ⟨h1, h2, h3, h4⟩
  ((repeat ((conv => whnf); first | refine brT ?_ | refine brF ?_)); conv => whnf)
  (refine ⟨fun g1 => ?_, fun g1 => ?_⟩ <;> rw [g1])
  · have hn : 0 < n := by rw [ltI_t] at g1; omega
    have hs : acc.size ≤ 18 := by
      have h5 : 10 ^ acc.size ≤ k := Nat.le_trans (Nat.le_mul_of_pos_right _ hn) h2
      rcases Nat.lt_or_ge acc.size 19 with h | h
      · omega
      · have h6 : 10 ^ 19 ≤ 10 ^ acc.size := Nat.pow_le_pow_right (by decide) h
        have h7 : (10 : Nat) ^ 19 = 10000000000000000000 := by decide
        omega
    ((repeat ((conv => whnf); first | refine brT ?_ | refine brF ?_)); conv => whnf)
    refine ⟨by decide, ?_⟩
    ((repeat ((conv => whnf); first | refine brT ?_ | refine brF ?_)); conv => whnf)
    refine ⟨rfl, [IntKind.u8.wrap (IntKind.i64.wrap (48 + (n : Int).tmod 10))], rfl, ?_⟩
    ((repeat ((conv => whnf); first | refine brT ?_ | refine brF ?_)); conv => whnf)
    refine ⟨by rw [bytesOf1_size]; unfold Go.maxLen; omega, ?_⟩
    ((repeat ((conv => whnf); first | refine brT ?_ | refine brF ?_)); conv => whnf)
    refine ⟨by decide, ?_⟩
    have e : LV.int .i64 (IntKind.i64.wrap ((n : Int).tdiv 10)) = LV.int .i64 ((n / 10 : Nat) : Int) := by
      rw [show (n : Int).tdiv 10 = ((n / 10 : Nat) : Int) by rw [Int.tdiv_eq_ediv_of_nonneg (by omega)]; omega, wrap64 (by omega) (by omega)]
    ((repeat ((conv => whnf); first | refine brT ?_ | refine brF ?_)); conv => whnf)
    refine round_end (n / 10, bytesOf [IntKind.u8.wrap (IntKind.i64.wrap (48 + (n : Int).tmod 10))] ++ acc) ⟨by rw [← h1, digits_pos hn], ?_, by omega, ?_⟩ (by show n / 10 < n; omega) ⟨?_, trivial, rfl, rfl⟩
    · show 10 ^ (bytesOf [IntKind.u8.wrap (IntKind.i64.wrap (48 + (n : Int).tmod 10))] ++ acc).size * (n / 10) ≤ k
      rw [ByteArray.size_append, bytesOf1_size, Nat.add_comm, Nat.pow_succ]
      refine Nat.le_trans ?_ h2
      rw [Nat.mul_assoc]
      exact Nat.mul_le_mul_left _ (Nat.mul_div_le n 10)
    · show (bytesOf [IntKind.u8.wrap (IntKind.i64.wrap (48 + (n : Int).tmod 10))] ++ acc).size ≤ 20
      rw [ByteArray.size_append, bytesOf1_size]; omega
    · ((repeat ((conv => whnf); first | refine ⟨e, ?_⟩ | refine ⟨rfl, ?_⟩)); trivial)
  · have hn : n = 0 := by rw [ltI_f] at g1; omega
    subst hn
    rw [digits_zero] at h1
    ((repeat ((conv => whnf); first | refine brT ?_ | refine brF ?_)); conv => whnf)
    refine ⟨by have h5 : acc.size ≤ 20 := h4; unfold Go.maxLen; show 1 + acc.size ≤ _; omega, ?_⟩
    ((repeat ((conv => whnf); first | refine brT ?_ | refine brF ?_)); conv => whnf)
    refine fin ?_
    unfold mText
    rw [if_neg (by omega), ← h1]
end Go.Proofs.Ytpfipmjmblgjfaa

namespace Go.Proofs.Ytpfipmjmblgjfaa
open Go.Lg
set_option maxHeartbeats 400000
set_option maxRecDepth 10000
set_option linter.unusedVariables false
set_option linter.unusedSimpArgs false

theorem decode_low (s : ByteArray) (pos : Nat) (h : pos < s.size) :
    (low s[pos] = true ∧ Utf8.decode s pos = (s[pos].toNat, 1) ∧ ltI (s[pos].toNat : Int) 97 = false ∧ ltI 122 (s[pos].toNat : Int) = false) ∨
    (low s[pos] = false ∧ (ltI ((Utf8.decode s pos).1 : Int) 97 || ltI 122 ((Utf8.decode s pos).1 : Int)) = true) := by
  by_cases ha : (s[pos]'h).toNat < 128
  · have e := decode_ascii s pos h ha
    by_cases hl : low s[pos] = true
    · have := hl
      simp only [low, Bool.not_eq_true', Bool.or_eq_false_iff] at this
      exact .inl ⟨hl, e, this.1, this.2⟩
    · have hl' : low s[pos] = false := by simpa using hl
      refine .inr ⟨hl', ?_⟩
      rw [e]
      unfold low at hl'
      simpa only [Bool.not_eq_false'] using hl'
  · have e := (decode_high s pos h (by omega)).1
    refine .inr ⟨?_, ?_⟩
    · unfold low ltI; simp; omega
    · unfold ltI; simp; omega

/-- impl.IsName -/
theorem isNameImpl_spec (s : ByteArray) : FSpec env.P 193 [.str s] (.bool (isName s)) := by
  refine FSpec_of_code env_ok (fn := Try.f193) Try.func193 rfl Try.call193 _ _ ?_
  ((repeat ((conv => whnf); first | refine brT ?_ | refine brF ?_)); conv => whnf)
  intro hs
  ((repeat ((conv => whnf); first | refine brT ?_ | refine brF ?_)); conv => whnf)
  (refine ⟨fun h => ?_, fun h => ?_⟩ <;> rw [h])
  · ((repeat ((conv => whnf); first | refine brT ?_ | refine brF ?_)); conv => whnf)
    refine fin ?_
    rw [eqI_t] at h
    have h0 : leI 1 (s.size : Int) = false := by rw [leI_f]; omega
    simp [isName, h0]
  rw [eqI_f] at h
  have h0 : leI 1 (s.size : Int) = true := by rw [leI_t]; omega
  ((repeat ((conv => whnf); first | refine brT ?_ | refine brF ?_)); conv => whnf)
  intro _
  ((repeat ((conv => whnf); first | refine brT ?_ | refine brF ?_)); conv => whnf)
  (refine ⟨fun h1 => ?_, fun h1 => ?_⟩ <;> rw [h1])
  · ((repeat ((conv => whnf); first | refine brT ?_ | refine brF ?_)); conv => whnf)
    refine fin ?_
    have h2 : leI (s.size : Int) 12 = false := by rw [leI_f]; rw [ltI_t] at h1; exact h1
    simp [isName, h2]
  have h2 : leI (s.size : Int) 12 = true := by rw [leI_t]; rw [ltI_f] at h1; exact h1
  ((repeat ((conv => whnf); first | refine brT ?_ | refine brF ?_)); conv => whnf)
  refine loop_rule (α := Nat) (fun k => []) (fun k => [.it s k]) (fun k => s.size - k) (fun k => k ≤ s.size ∧ lowTo s k) 0 ⟨Nat.zero_le _, fun _ _ h => absurd h (Nat.not_lt_zero _)⟩ ?_ ?_
  · refine ⟨?_, ⟨rfl, trivial⟩, rfl, rfl⟩
    ((repeat ((conv => whnf); refine ⟨rfl, ?_⟩)); trivial)
  rintro k ⟨hk, hlow⟩
  ((repeat ((conv => whnf); first | refine brT ?_ | refine brF ?_)); conv => whnf)
  refine ⟨fun hlt => ?_, fun hge => ?_⟩
  · rcases decode_low s k hlt with ⟨hl, hd, hd1, hd2⟩ | ⟨hl, hd⟩
    · rw [hd]
      ((repeat ((conv => whnf); first | refine brT ?_ | refine brF ?_)); conv => whnf)
      rw [hd1]
      ((repeat ((conv => whnf); first | refine brT ?_ | refine brF ?_)); conv => whnf)
      rw [hd2]
      ((repeat ((conv => whnf); first | refine brT ?_ | refine brF ?_)); conv => whnf)
      refine round_end (k + 1) ⟨hlt, hlow.succ hlt hl⟩ (by omega) ⟨?_, ⟨rfl, trivial⟩, rfl, rfl⟩
      ((repeat ((conv => whnf); refine ⟨rfl, ?_⟩)); trivial)
    · have hno : false = isName s := (isName_no hlt hl).symm
      generalize Utf8.decode s k = d at hd ⊢
      ((repeat ((conv => whnf); first | refine brT ?_ | refine brF ?_)); conv => whnf)
      (refine ⟨fun h3 => ?_, fun h3 => ?_⟩ <;> rw [h3])
      · ((repeat ((conv => whnf); first | refine brT ?_ | refine brF ?_)); conv => whnf); exact fin hno
      · ((repeat ((conv => whnf); first | refine brT ?_ | refine brF ?_)); conv => whnf)
        rw [h3, Bool.false_or] at hd
        rw [hd]
        ((repeat ((conv => whnf); first | refine brT ?_ | refine brF ?_)); conv => whnf); exact fin hno
  · ((repeat ((conv => whnf); first | refine brT ?_ | refine brF ?_)); conv => whnf)
    refine fin ?_
    rw [isName, hlow.all (by omega), h0, h2]
    rfl

/-- impl.isOfSex -/
def ofSex (ps : List Per) (x sex : Int) : Bool := leI 0 x && match ps[x.toNat]? with | some q => eqI q.sex sex | none => false
/-- impl.isUnited -/
def unitedOf (m f : Int) (u : Uni) : Bool := eqI u.husband m && eqI u.wife f
/-- The first place where it holds. -/
def idxFrom {α : Type} (q : α → Bool) : Nat → List α → Int
  | _, [] => -1
  | i, p :: ps => match q p with | true => (i : Int) | false => idxFrom q (i + 1) ps
theorem idxFrom_ge {α : Type} (q : α → Bool) : ∀ (i : Nat) (ps : List α), leI 0 (idxFrom q i ps) = ps.any q
  | _, [] => by simp [idxFrom, leI]
  | i, p :: ps => by
    simp only [idxFrom, List.any_cons]
    cases h : q p
    · simpa using idxFrom_ge q (i + 1) ps
    · simp [leI]

/-- impl.knownParents -/
def notNone (x : Int) : Bool := notB (eqI x (-1))
def known (p : Per) : List Int := [p.father, p.mother].filter notNone
def intLV (n : Int) : LV := .int .i64 n
def knownTo (p : Per) (k : Nat) : List Int := ([p.father, p.mother].take k).filter notNone
theorem knownTo_succ (p : Per) (k : Nat) (h : k < 2) : knownTo p (k + 1) = knownTo p k ++ (if notNone ([p.father, p.mother][k]'h) then [[p.father, p.mother][k]'h] else []) := by
  unfold knownTo
  rw [List.take_succ_eq_append_getElem h, List.filter_append]
  congr 1
  simp [List.filter]
  split <;> simp_all
theorem knownTo_len (p : Per) (k : Nat) : (knownTo p k).length ≤ 2 := by
  unfold knownTo
  refine Nat.le_trans (List.length_filter_le _ _) ?_
  simp; omega
end Go.Proofs.Ytpfipmjmblgjfaa
namespace Go.Proofs.Ytpfipmjmblgjfaa
open Go.Lg
set_option maxHeartbeats 1600000
set_option maxRecDepth 10000
set_option linter.unusedVariables false
set_option linter.unusedSimpArgs false

/-- Rows of integers, lent. -/
def rowSl (r : List Int) : LV := .sl (r.map intLV)
/-- Rows of integers, owned. -/
def rowOw (r : List Int) : LV := .own 3 1 (r.map intLV)
theorem dms_rows : ∀ rows : List (List Int), dms (rows.map rowOw) = rows.map rowSl
  | [] => rfl
  | r :: rs => by simp only [List.map_cons, dms, dms_rows rs]; rfl

/-- laws.szIntS -/
def szN (l : Int) (n : Nat) : Int := match ltI (IntKind.i64.wrap (l - (n : Int))) 0 with | true => -1 | false => IntKind.i64.wrap (l - (n : Int))
def szRs : Int → List (List Int) → Int
  | l, [] => l
  | l, r :: rs => match ltI (szN l r.length) 0 with | true => -1 | false => szRs (szN l r.length) rs
def szRows (l : Int) (rows : List (List Int)) : Int := match ltI (szN l rows.length) 0 with | true => -1 | false => szRs (szN l rows.length) rows

def relLV (n : Int) (rows : List (List Int)) : LV := .st [.int .i64 n, .sl (rows.map rowSl)]
end Go.Proofs.Ytpfipmjmblgjfaa
namespace Go.Proofs.Ytpfipmjmblgjfaa
open Go.Lg
set_option maxHeartbeats 1600000
set_option maxRecDepth 10000
set_option linter.unusedVariables false
set_option linter.unusedSimpArgs false

theorem eqIntS_refl (xs : List Int) : eqList eqI xs xs = true := eqList_refl eqI_refl xs

theorem flats_ints : ∀ xs : List Int, flatsB (xs.map intLV) = true
  | [] => rfl
  | x :: xs => by simp [flatsB, flatB, intLV]; exact flats_ints xs
theorem flat_ints (xs : List Int) : flatT (.own 3 1 (xs.map intLV)) = true := by simp [flatT, flatB, flats_ints]

end Go.Proofs.Ytpfipmjmblgjfaa

namespace Go.Proofs.Ytpfipmjmblgjfaa
open Go.Lg
set_option maxHeartbeats 1600000
set_option maxRecDepth 10000
set_option linter.unusedVariables false
set_option linter.unusedSimpArgs false

/-- Rows that may be laid out again. -/
structure RowsOK (rows : List (List Int)) : Prop where
  n : 24 * rows.length ≤ 281474976710656
  each : ∀ r ∈ rows, 8 * r.length ≤ 281474976710656

def relHS (n : Int) (a m : Nat) : LV := .st [.int .i64 n, .hs a m]
def eqRel (n : Int) (ps : List (List Int)) (m : Int) (qs : List (List Int)) : Bool := eqI n m && eqList (eqList eqI) ps qs
theorem eqRows_refl (rows : List (List Int)) : eqList (eqList eqI) rows rows = true := eqList_refl eqIntS_refl rows
theorem eqRel_refl (n : Int) (rows : List (List Int)) : eqRel n rows n rows = true := by simp [eqRel, eqI_refl, eqRows_refl]
end Go.Proofs.Ytpfipmjmblgjfaa

namespace Go.Proofs.Ytpfipmjmblgjfaa
open Go.Lg
set_option maxHeartbeats 1600000
set_option maxRecDepth 10000
set_option linter.unusedVariables false
set_option linter.unusedSimpArgs false

/-- How many integers the rows have. -/
def tot (rows : List (List Int)) : Nat := (rows.map List.length).sum
theorem tot_cons (r : List Int) (rs : List (List Int)) : tot (r :: rs) = r.length + tot rs := by simp [tot]
def markRows : Int → List (List Int) → List (List Int)
  | _, [] => []
  | k, r :: rs => marks k r.length :: markRows (k + r.length) rs
theorem markRows_len : ∀ (k : Int) (rows : List (List Int)), (markRows k rows).length = rows.length
  | _, [] => rfl
  | k, r :: rs => by simp [markRows, markRows_len _ rs]
theorem markRows_snoc : ∀ (k : Int) (rs : List (List Int)) (r : List Int), markRows k (rs ++ [r]) = markRows k rs ++ [marks (k + tot rs) r.length]
  | k, [], r => by simp [markRows, tot]
  | k, x :: xs, r => by
    simp only [List.cons_append, markRows, markRows_snoc _ xs r, tot_cons]
    congr 3; congr 1; omega
theorem tot_snoc (rs : List (List Int)) (r : List Int) : tot (rs ++ [r]) = tot rs + r.length := by simp [tot]

/-- The first i rows marked. -/
def markT (k : Int) (rows : List (List Int)) (i : Nat) : List (List Int) := markRows k (rows.take i) ++ rows.drop i
theorem markT_len {k : Int} {rows : List (List Int)} {i : Nat} (h : i ≤ rows.length) : (markT k rows i).length = rows.length := by simp [markT, markRows_len]; omega
theorem markT_zero (k : Int) (rows : List (List Int)) : markT k rows 0 = rows := by simp [markT, markRows]
theorem markT_all (k : Int) (rows : List (List Int)) : markT k rows rows.length = markRows k rows := by simp [markT]
theorem markT_get {k : Int} {rows : List (List Int)} {i : Nat} (h : i < rows.length) : (markT k rows i)[i]? = some rows[i] := by
  unfold markT
  have hm : (markRows k (rows.take i)).length = i := by rw [markRows_len, List.length_take]; omega
  rw [List.getElem?_append_right (by omega), hm]
  simp [h]
theorem markT_set {k : Int} {rows : List (List Int)} {i : Nat} (h : i < rows.length) : (markT k rows i).set i (marks (k + tot (rows.take i)) rows[i].length) = markT k rows (i + 1) := by
  unfold markT
  have e : rows.take (i + 1) = rows.take i ++ [rows[i]] := by rw [List.take_succ_eq_append_getElem h]
  have hm : (markRows k (rows.take i)).length = i := by rw [markRows_len, List.length_take]; omega
  rw [e, markRows_snoc, List.drop_eq_getElem_cons h, List.set_append_right _ _ (by omega), hm, Nat.sub_self, List.set_cons_zero, List.append_assoc]
  rfl
theorem tot_take_succ {rows : List (List Int)} {i : Nat} (h : i < rows.length) : tot (rows.take (i + 1)) = tot (rows.take i) + rows[i].length := by
  rw [List.take_succ_eq_append_getElem h, tot_snoc]
theorem tot_take_le : ∀ (rows : List (List Int)) (i : Nat), tot (rows.take i) ≤ tot rows
  | [], i => by simp [tot]
  | r :: rs, 0 => by simp [tot]
  | r :: rs, i + 1 => by simp only [List.take_succ_cons, tot_cons]; have := tot_take_le rs i; omega

theorem markRows_get : ∀ (k : Int) (rows : List (List Int)) (i : Nat) (h : i < rows.length), (markRows k rows)[i]? = some (marks (k + tot (rows.take i)) rows[i].length)
  | k, r :: rs, 0, _ => by simp [markRows, tot]
  | k, r :: rs, i + 1, h => by
    simp only [markRows, List.getElem?_cons_succ, List.take_succ_cons, tot_cons, List.getElem_cons_succ]
    rw [markRows_get (k + r.length) rs i (by simpa using h)]
    congr 2; omega

end Go.Proofs.Ytpfipmjmblgjfaa
namespace Go.Proofs.Ytpfipmjmblgjfaa
open Go.Lg
set_option maxHeartbeats 1600000
set_option maxRecDepth 10000
set_option linter.unusedVariables false
set_option linter.unusedSimpArgs false

/-! ### Bits -/
theorem u64_wrap {n : Nat} (h : n < 2 ^ 64) : IntKind.u64.wrap (n : Int) = n := by
  unfold IntKind.wrap
  simp [IntKind.signed, IntKind.bits]
  omega
theorem ofInt_nat (n : Nat) : BitVec.ofInt 64 (n : Int) = BitVec.ofNat 64 n := by simp
theorem orI_nat {a b : Nat} (ha : a < 2 ^ 64) (hb : b < 2 ^ 64) : Go.Lg.orI .u64 (a : Int) (b : Int) = ((a ||| b : Nat) : Int) := by
  unfold Go.Lg.orI
  show IntKind.u64.wrap ((BitVec.ofInt 64 (a : Int) ||| BitVec.ofInt 64 (b : Int)).toNat) = _
  rw [ofInt_nat, ofInt_nat, BitVec.toNat_or, BitVec.toNat_ofNat, BitVec.toNat_ofNat, Nat.mod_eq_of_lt ha, Nat.mod_eq_of_lt hb]
  exact u64_wrap (Nat.or_lt_two_pow ha hb)
theorem andI_nat {a b : Nat} (ha : a < 2 ^ 64) (hb : b < 2 ^ 64) : andI .u64 (a : Int) (b : Int) = ((a &&& b : Nat) : Int) := by
  unfold andI
  show IntKind.u64.wrap ((BitVec.ofInt 64 (a : Int) &&& BitVec.ofInt 64 (b : Int)).toNat) = _
  rw [ofInt_nat, ofInt_nat, BitVec.toNat_and, BitVec.toNat_ofNat, BitVec.toNat_ofNat, Nat.mod_eq_of_lt ha, Nat.mod_eq_of_lt hb]
  exact u64_wrap (Nat.and_lt_two_pow a hb)
/-- a but not b, in 64 bits -/
def lessN (a b : Nat) : Nat := (BitVec.ofNat 64 a &&& ~~~BitVec.ofNat 64 b).toNat
theorem lessN_lt (a b : Nat) : lessN a b < 2 ^ 64 := (BitVec.ofNat 64 a &&& ~~~BitVec.ofNat 64 b).isLt
theorem andNotI_nat (a b : Nat) : andNotI .u64 (a : Int) (b : Int) = (lessN a b : Int) := by
  unfold andNotI
  show IntKind.u64.wrap ((BitVec.ofInt 64 (a : Int) &&& ~~~BitVec.ofInt 64 (b : Int)).toNat) = _
  rw [ofInt_nat, ofInt_nat]
  exact u64_wrap (lessN_lt a b)
theorem lessN_bit {a b i : Nat} (ha : a < 2 ^ 64) (hi : i < 64) : (lessN a b).testBit i = (a.testBit i && !b.testBit i) := by
  unfold lessN
  rw [BitVec.testBit_toNat, BitVec.getLsbD_and, BitVec.getLsbD_not, BitVec.getLsbD_ofNat, BitVec.getLsbD_ofNat]
  simp [hi]
theorem shlI_one {b : Int} (h0 : 0 ≤ b) (h1 : b < 64) : shlI .u64 1 b = ((2 ^ b.toNat : Nat) : Int) := by
  unfold shlI
  have hm : min b.toNat IntKind.u64.bits = b.toNat := by
    have : b.toNat < 64 := by omega
    simp [IntKind.bits]; omega
  rw [hm, Int.one_mul]
  have hlt : 2 ^ b.toNat < 2 ^ 64 := Nat.pow_lt_pow_right (by omega) (by omega)
  have := u64_wrap hlt
  rw [← this]
  simp

def uLV (s : Nat) : LV := .int .u64 (s : Int)
/-- The set of a row. -/
def setFrom : Nat → List Int → Nat
  | s, [] => s
  | s, b :: bs => setFrom (s ||| 2 ^ b.toNat) bs
def setN (row : List Int) : Nat := setFrom 0 row
def inSize (row : List Int) : Prop := ∀ b ∈ row, 0 ≤ b ∧ b < 40
theorem two_lt {b : Nat} (h : b < 64) : 2 ^ b < 2 ^ 64 := Nat.pow_lt_pow_right (by omega) h
theorem setFrom_lt : ∀ (row : List Int) (s : Nat), s < 2 ^ 64 → inSize row → setFrom s row < 2 ^ 64
  | [], s, h, _ => h
  | b :: bs, s, h, hr => by
    have := hr b (by simp)
    exact setFrom_lt bs _ (Nat.or_lt_two_pow h (two_lt (by omega))) fun x hx => hr x (by simp [hx])
theorem setFrom_bit : ∀ (row : List Int) (s i : Nat), inSize row → (setFrom s row).testBit i = (s.testBit i || decide ((i : Int) ∈ row))
  | [], s, i, _ => by simp [setFrom]
  | b :: bs, s, i, hr => by
    have hb := hr b (by simp)
    simp only [setFrom]
    rw [setFrom_bit bs _ i fun x hx => hr x (by simp [hx]), Nat.testBit_or, Nat.testBit_two_pow]
    have : (b.toNat = i) ↔ ((i : Int) = b) := by omega
    simp only [List.mem_cons, this, Bool.or_assoc, Bool.decide_or]
theorem setN_bit {row : List Int} (h : inSize row) (i : Nat) : (setN row).testBit i = decide ((i : Int) ∈ row) := by unfold setN; rw [setFrom_bit row 0 i h]; simp
theorem setN_lt {row : List Int} (h : inSize row) : setN row < 2 ^ 64 := setFrom_lt row 0 (by decide) h

/-- (numberSet).has -/
def hasN (s : Nat) (b : Int) : Bool := s.testBit b.toNat
theorem has_bits {s : Nat} {b : Int} (hs : s < 2 ^ 64) (h0 : 0 ≤ b) (h1 : b < 64) : notB (eqI (andI .u64 (s : Int) (shlI .u64 1 b)) 0) = hasN s b := by
  rw [shlI_one h0 h1, andI_nat hs (two_lt (by omega))]
  unfold hasN notB eqI
  have hx : s &&& 2 ^ b.toNat = if s.testBit b.toNat then 2 ^ b.toNat else 0 := by
    apply Nat.eq_of_testBit_eq
    intro i
    rw [Nat.testBit_and, Nat.testBit_two_pow]
    by_cases hi : b.toNat = i
    · subst hi
      cases h : s.testBit b.toNat <;> simp [Nat.testBit_two_pow]
    · cases h : s.testBit b.toNat <;> simp [hi, Nat.testBit_two_pow]
  rw [hx]
  have hp : 0 < 2 ^ b.toNat := Nat.two_pow_pos _
  cases s.testBit b.toNat
  · simp
  · simp only [if_true]
    rw [Bool.not_eq_true', beq_eq_false_iff_ne]
    omega
end Go.Proofs.Ytpfipmjmblgjfaa
namespace Go.Proofs.Ytpfipmjmblgjfaa
open Go.Lg
set_option maxHeartbeats 1600000
set_option maxRecDepth 10000
set_option linter.unusedVariables false
set_option linter.unusedSimpArgs false

def rowFrom (size : Int) : Int → List Int → Bool
  | _, [] => true
  | last, b :: bs => match leI b last with | true => false | false => match leI size b with | true => false | false => rowFrom size b bs
def rowsOk (n : Int) (rows : List (List Int)) : Bool := rows.all fun r => rowFrom n (-1) r
def relOk (n : Int) (rows : List (List Int)) : Bool := leI 0 n && leI n 40 && eqI rows.length n && rowsOk n rows
end Go.Proofs.Ytpfipmjmblgjfaa
namespace Go.Proofs.Ytpfipmjmblgjfaa
open Go.Lg
set_option maxHeartbeats 1600000
set_option maxRecDepth 10000
set_option linter.unusedVariables false
set_option linter.unusedSimpArgs false

structure RowsLen (rows : List (List Int)) : Prop where
  n : rows.length ≤ Go.maxLen
  each : ∀ r ∈ rows, r.length ≤ Go.maxLen

theorem szN_ok {l : Int} {n : Nat} (h0 : 0 ≤ l) (h1 : l ≤ 1048576) (hn : n ≤ Go.maxLen) (h : 0 ≤ szN l n) : szN l n = l - n ∧ (n : Int) ≤ l := by
  unfold szN at h ⊢
  rw [wrap_sub h0 h1 hn] at h ⊢
  split at h
  · omega
  · exact ⟨rfl, by omega⟩
theorem szRs_ok : ∀ (rows : List (List Int)) (l : Int), 0 ≤ l → l ≤ 1048576 → (∀ r ∈ rows, r.length ≤ Go.maxLen) → 0 ≤ szRs l rows → szRs l rows = l - tot rows ∧ (tot rows : Int) ≤ l
  | [], l, h0, _, _, _ => by simp [szRs, tot]; exact h0
  | r :: rs, l, h0, h1, hn, h => by
    simp only [szRs] at h ⊢
    split at h
    · omega
    · rename_i hh
      rw [ltI_f] at hh
      obtain ⟨a1, a2⟩ := szN_ok h0 h1 (hn r (by simp)) hh
      obtain ⟨b1, b2⟩ := szRs_ok rs _ hh (by omega) (fun q hq => hn q (by simp [hq])) h
      rw [tot_cons]
      exact ⟨by rw [b1, a1]; omega, by omega⟩
theorem tot_mem : ∀ {rows : List (List Int)} {r : List Int}, r ∈ rows → r.length ≤ tot rows
  | x :: xs, r, h => by
    rw [tot_cons]
    rcases List.mem_cons.1 h with rfl | h
    · omega
    · have := tot_mem h; omega
theorem szRows_ok {rows : List (List Int)} {l : Int} (h0 : 0 ≤ l) (h1 : l ≤ 1048576) (hr : RowsLen rows) (h : 0 ≤ szRows l rows) : RowsOK rows ∧ tot rows ≤ 1048576 ∧ rows.length ≤ 1048576 ∧ szRows l rows ≤ l ∧ ltI (szRows l rows) 0 = false := by
  unfold szRows at h ⊢
  split at h
  · omega
  · rename_i hh
    rw [ltI_f] at hh
    obtain ⟨a1, a2⟩ := szN_ok h0 h1 hr.n hh
    obtain ⟨b1, b2⟩ := szRs_ok rows _ hh (by omega) hr.each h
    have hb : RowsOK rows := ⟨by omega, fun r hm => by have := tot_mem hm; omega⟩
    refine ⟨hb, by omega, by omega, by rw [b1]; omega, by rw [ltI_f]; exact h⟩

abbrev shInts : Sh := .sl (.int .i64)
abbrev shRel : Sh := .st [.int .i64, .sl (.sl (.int .i64))]
theorem ints_of : ∀ (xs : List LV), (∀ x ∈ xs, hasSh (.int .i64) x) → ∃ ns : List Int, xs = ns.map intLV
  | [], _ => ⟨[], rfl⟩
  | x :: xs, h => by
    obtain ⟨ns, rfl⟩ := ints_of xs fun y hy => h y (by simp [hy])
    have h0 := h x (by simp)
    simp only [hasSh] at h0
    obtain ⟨n, rfl⟩ := h0
    exact ⟨n :: ns, rfl⟩
theorem row_of_sh {x : LV} (h : hasSh shInts x) : ∃ r : List Int, x = rowSl r ∧ r.length ≤ Go.maxLen := by
  simp only [hasSh] at h
  obtain ⟨xs, rfl, hl, h⟩ := h
  obtain ⟨ns, rfl⟩ := ints_of xs fun x hx => by simp only [hasSh]; exact h x hx
  exact ⟨ns, rfl, by simpa using hl⟩
theorem rows_of : ∀ (xs : List LV), (∀ x ∈ xs, hasSh shInts x) → ∃ rows : List (List Int), xs = rows.map rowSl ∧ ∀ r ∈ rows, r.length ≤ Go.maxLen
  | [], _ => ⟨[], rfl, by simp⟩
  | x :: xs, h => by
    obtain ⟨rows, rfl, hl⟩ := rows_of xs fun y hy => h y (by simp [hy])
    obtain ⟨r, rfl, hr⟩ := row_of_sh (h x (by simp))
    exact ⟨r :: rows, rfl, List.forall_mem_cons.2 ⟨hr, hl⟩⟩
theorem rel_of_sh {x : LV} (h : hasSh shRel x) : ∃ (n : Int) (rows : List (List Int)), x = relLV n rows ∧ RowsLen rows := by
  simp only [hasSh] at h
  obtain ⟨xs, rfl, h⟩ := h
  match xs, h with
  | [a, b], h =>
    simp only [hasShs, hasSh] at h
    obtain ⟨⟨n, rfl⟩, ⟨ys, rfl, hl, hy⟩, _⟩ := h
    obtain ⟨rows, rfl, hr⟩ := rows_of ys fun y hy' => by simp only [hasSh]; exact hy y hy'
    exact ⟨n, rows, rfl, by simpa using hl, hr⟩
  | [], h => simp [hasShs] at h
  | [_], h => simp [hasShs] at h
  | _ :: _ :: _ :: _, h => simp [hasShs] at h

theorem eqB_refl (b : Bool) : eqB b b = true := by unfold eqB; simp

end Go.Proofs.Ytpfipmjmblgjfaa
namespace Go.Proofs.Ytpfipmjmblgjfaa
open Go.Lg
set_option maxHeartbeats 1600000
set_option maxRecDepth 10000
set_option linter.unusedVariables false
set_option linter.unusedSimpArgs false

theorem rowFrom_cons {n last b : Int} {bs : List Int} (h : rowFrom n last (b :: bs) = true) : last < b ∧ b < n ∧ rowFrom n b bs = true := by
  simp only [rowFrom] at h
  split at h
  · cases h
  · rename_i h1
    split at h
    · cases h
    · rename_i h2
      rw [leI_f] at h1 h2
      exact ⟨h1, h2, h⟩
theorem rowFrom_mem : ∀ {r : List Int} {n last : Int}, rowFrom n last r = true → ∀ b ∈ r, last < b ∧ b < n
  | [], _, _, _, b, hb => by simp at hb
  | x :: xs, n, last, h, b, hb => by
    obtain ⟨h1, h2, h3⟩ := rowFrom_cons h
    rcases List.mem_cons.1 hb with rfl | hb
    · exact ⟨h1, h2⟩
    · have := rowFrom_mem h3 b hb; omega
theorem rowFrom_len : ∀ {r : List Int} {n last : Int}, rowFrom n last r = true → (r.length : Int) + last ≤ n - 1 ∨ r = []
  | [], _, _, _ => .inr rfl
  | x :: xs, n, last, h => by
    obtain ⟨h1, h2, h3⟩ := rowFrom_cons h
    left
    rcases rowFrom_len h3 with h4 | rfl
    · simp only [List.length_cons]; omega
    · simp; omega
structure RelIn (n : Int) (rows : List (List Int)) : Prop where
  lo : 0 ≤ n
  hi : n ≤ 40
  len : (rows.length : Int) = n
  row : ∀ r ∈ rows, rowFrom n (-1) r = true
theorem relIn_of {n : Int} {rows : List (List Int)} (h : relOk n rows = true) : RelIn n rows := by
  unfold relOk rowsOk at h
  simp only [Bool.and_eq_true, leI_t, eqI_t, List.all_eq_true] at h
  exact ⟨h.1.1.1, h.1.1.2, h.1.2, h.2⟩
theorem relOk_of {n : Int} {rows : List (List Int)} (h : RelIn n rows) : relOk n rows = true := by
  unfold relOk rowsOk
  simp only [Bool.and_eq_true, leI_t, eqI_t, List.all_eq_true]
  exact ⟨⟨⟨h.lo, h.hi⟩, h.len⟩, h.row⟩
theorem RelIn.mem {n : Int} {rows : List (List Int)} (h : RelIn n rows) {r : List Int} (hr : r ∈ rows) {b : Int} (hb : b ∈ r) : 0 ≤ b ∧ b < n ∧ b < 40 := by
  have := rowFrom_mem (h.row r hr) b hb
  have := h.hi
  omega
theorem RelIn.rlen {n : Int} {rows : List (List Int)} (h : RelIn n rows) {r : List Int} (hr : r ∈ rows) : r.length ≤ 40 := by
  have h1 := h.hi
  rcases rowFrom_len (h.row r hr) with h2 | rfl
  · omega
  · simp

/-! ### Pairs -/
structure Pr where
  a : Int
  b : Int
def Pr.lv (p : Pr) : LV := .st [.int .i64 p.a, .int .i64 p.b]
def prRow (a : Nat) (r : List Int) : List Pr := r.map fun b => ⟨a, b⟩
def prFrom : Nat → List (List Int) → List Pr
  | _, [] => []
  | a, r :: rs => prRow a r ++ prFrom (a + 1) rs
theorem prFrom_snoc : ∀ (a : Nat) (rs : List (List Int)) (r : List Int), prFrom a (rs ++ [r]) = prFrom a rs ++ prRow (a + rs.length) r
  | a, [], r => by simp [prFrom]
  | a, x :: xs, r => by
    simp only [List.cons_append, prFrom, prFrom_snoc _ xs r, List.append_assoc, List.length_cons]
    congr 3; omega
theorem prFrom_len : ∀ (a : Nat) (rs : List (List Int)), (prFrom a rs).length = tot rs
  | _, [] => rfl
  | a, r :: rs => by simp [prFrom, prRow, tot_cons, prFrom_len _ rs]
theorem tot_le {m : Nat} : ∀ {rows : List (List Int)}, (∀ r ∈ rows, r.length ≤ m) → tot rows ≤ rows.length * m
  | [], _ => by simp [tot]
  | r :: rs, h => by
    have h1 := h r (by simp)
    have h2 := tot_le (rows := rs) fun q hq => h q (by simp [hq])
    rw [tot_cons, List.length_cons, Nat.succ_mul]; omega
theorem RelIn.tot {n : Int} {rows : List (List Int)} (h : RelIn n rows) : tot rows ≤ 1600 := by
  have h1 := tot_le (rows := rows) (m := 40) fun r hr => h.rlen hr
  have h2 : rows.length ≤ 40 := by have := h.len; have := h.hi; omega
  have := Nat.mul_le_mul_right 40 h2
  omega
/-- What has been listed when k rows are done, and i numbers of the next. -/
def prTo (rows : List (List Int)) (k i : Nat) : List Pr := prFrom 0 (rows.take k) ++ prRow k ((rows.getD k []).take i)
theorem prTo_zero (rows : List (List Int)) (k : Nat) : prTo rows k 0 = prFrom 0 (rows.take k) := by simp [prTo, prRow]
theorem prTo_succ {rows : List (List Int)} {k i : Nat} (hk : k < rows.length) (hi : i < rows[k].length) : prTo rows k (i + 1) = prTo rows k i ++ [⟨k, rows[k][i]⟩] := by
  have hg : rows.getD k [] = rows[k] := by simp [List.getD_eq_getElem?_getD, hk]
  unfold prTo
  rw [hg, List.take_succ_eq_append_getElem hi]
  simp only [prRow, List.map_append, List.map_cons, List.map_nil, List.append_assoc]
theorem prTo_row {rows : List (List Int)} {k : Nat} (hk : k < rows.length) : prTo rows k rows[k].length = prTo rows (k + 1) 0 := by
  have hg : rows.getD k [] = rows[k] := by simp [List.getD_eq_getElem?_getD, hk]
  rw [prTo_zero]
  unfold prTo
  rw [hg, List.take_length, List.take_succ_eq_append_getElem hk, prFrom_snoc]
  simp [List.length_take, Nat.min_eq_left (Nat.le_of_lt hk)]
theorem prTo_len {rows : List (List Int)} {k i : Nat} (hk : k < rows.length) (hi : i ≤ rows[k].length) : (prTo rows k i).length ≤ tot rows := by
  have hg : rows.getD k [] = rows[k] := by simp [List.getD_eq_getElem?_getD, hk]
  have h1 := tot_take_succ hk
  have h2 := tot_take_le rows (k + 1)
  unfold prTo
  rw [List.length_append, prFrom_len, hg]
  simp [prRow]
  omega
def pairsL (n : Int) (rows : List (List Int)) : List Pr := match relOk n rows with | true => prFrom 0 rows | false => []
theorem pairsL_len (n : Int) (rows : List (List Int)) : (pairsL n rows).length ≤ 1600 := by
  unfold pairsL
  split
  · rename_i h; rw [prFrom_len]; exact (relIn_of h).tot
  · simp
end Go.Proofs.Ytpfipmjmblgjfaa

namespace Go.Proofs.Ytpfipmjmblgjfaa
open Go.Lg
set_option maxHeartbeats 1600000
set_option maxRecDepth 10000
set_option linter.unusedVariables false
set_option linter.unusedSimpArgs false

/-- The numbers of a set, below k. -/
def listTo (s : Nat) (k : Nat) : List Int := List.map (fun i : Nat => (i : Int)) (List.filter (fun i : Nat => s.testBit i) (List.range k))
def listN (s : Nat) : List Int := listTo s 40
theorem listTo_len (s k : Nat) : (listTo s k).length ≤ k := by
  unfold listTo
  rw [List.length_map]
  exact Nat.le_trans (List.length_filter_le _ _) (by simp)
theorem listTo_succ (s k : Nat) : listTo s (k + 1) = listTo s k ++ (match hasN s (k : Int) with | true => [(k : Int)] | false => []) := by
  unfold listTo hasN
  rw [List.range_succ, List.filter_append, List.map_append]
  congr 1
  simp only [List.filter_cons, List.filter_nil, Int.toNat_natCast]
  cases s.testBit k <;> rfl

end Go.Proofs.Ytpfipmjmblgjfaa
namespace Go.Proofs.Ytpfipmjmblgjfaa
open Go.Lg
set_option maxHeartbeats 1600000
set_option maxRecDepth 10000
set_option linter.unusedVariables false
set_option linter.unusedSimpArgs false

/-- The rows of what is related among n numbers. -/
def relRows (n : Nat) (P : Nat → Nat → Bool) : List (List Int) := (List.range n).map fun a => List.map (fun i : Nat => (i : Int)) (List.filter (fun b : Nat => P a b) (List.range n))
theorem relRows_len (n : Nat) (P : Nat → Nat → Bool) : (relRows n P).length = n := by simp [relRows]

theorem listTo_cut {s n : Nat} (h : ∀ i, n ≤ i → i < 40 → s.testBit i = false) (hn : n ≤ 40) : listN s = listTo s n := by
  have key : ∀ m, n ≤ m → m ≤ 40 → listTo s m = listTo s n := by
    intro m
    induction m with
    | zero => intro h1 _; have : n = 0 := by omega
              subst this; rfl
    | succ m ih =>
      intro h1 h2
      by_cases e : n = m + 1
      · subst e; rfl
      · rw [listTo_succ, ih (by omega) (by omega)]
        have : hasN s (m : Int) = false := by unfold hasN; simpa using h m (by omega) (by omega)
        rw [this]; simp
  exact key 40 hn (Nat.le_refl _)

/-- Sets of numbers, as rows. -/
theorem rows_of_sets {ss : List Nat} {n : Nat} {P : Nat → Nat → Bool} (hl : ss.length = n) (hn : n ≤ 40) (h : ∀ (a : Nat) (ha : a < ss.length) (b : Nat), b < 40 → ss[a].testBit b = (decide (b < n) && P a b)) :
    ss.map listN = relRows n P := by
  apply List.ext_getElem
  · simp [relRows, hl]
  · intro a h1 h2
    have ha : a < ss.length := by simpa using h1
    simp only [List.getElem_map, relRows, List.getElem_range]
    rw [listTo_cut (n := n) (fun i hi hi40 => by rw [h a ha i hi40]; simp; omega) hn]
    unfold listTo
    congr 1
    apply List.filter_congr
    intro b hb
    have hb : b < n := by simpa using hb
    rw [h a ha b (by omega)]; simp [hb]

theorem flatTs_rows : ∀ rows : List (List Int), flatTs (rows.map rowOw) = true
  | [] => rfl
  | r :: rs => by simp only [List.map_cons, flatTs, Bool.and_eq_true]; exact ⟨by simp only [rowOw, flatT1]; exact flats_ints r, flatTs_rows rs⟩

/-- Both valid, of one size. -/
def alike (n : Int) (rows : List (List Int)) (m : Int) (rows' : List (List Int)) : Bool := eqI n m && relOk n rows && relOk m rows'
def bLV (b : Bool) : LV := .bool b
def lineOw (l : List Bool) : LV := .own 4 1 (l.map bLV)
def lineSl (l : List Bool) : LV := .sl (l.map bLV)
theorem dms_lines : ∀ g : List (List Bool), dms (g.map lineOw) = g.map lineSl
  | [] => rfl
  | r :: rs => by simp only [List.map_cons, dms, dms_lines rs]; rfl
def blank (n k : Nat) : List (List Bool) := List.replicate k (List.replicate n false)

end Go.Proofs.Ytpfipmjmblgjfaa
namespace Go.Proofs.Ytpfipmjmblgjfaa
open Go.Lg
set_option maxHeartbeats 1600000
set_option maxRecDepth 10000
set_option linter.unusedVariables false
set_option linter.unusedSimpArgs false

/-- The places of a line that are true, below k. -/
def lineTo (l : List Bool) (k : Nat) : List Int := List.map (fun i : Nat => (i : Int)) (List.filter (fun i : Nat => l.getD i false) (List.range k))
def lineN (l : List Bool) : List Int := lineTo l l.length
theorem lineTo_len (l : List Bool) (k : Nat) : (lineTo l k).length ≤ k := by
  unfold lineTo
  rw [List.length_map]
  exact Nat.le_trans (List.length_filter_le _ _) (by simp)
theorem lineTo_succ {l : List Bool} {k : Nat} (h : k < l.length) : lineTo l (k + 1) = lineTo l k ++ (match l[k] with | true => [(k : Int)] | false => []) := by
  unfold lineTo
  rw [List.range_succ, List.filter_append, List.map_append]
  congr 1
  have : l.getD k false = l[k] := by simp [List.getD_eq_getElem?_getD, h]
  simp only [List.filter_cons, List.filter_nil, this]
  cases l[k] <;> rfl

end Go.Proofs.Ytpfipmjmblgjfaa
namespace Go.Proofs.Ytpfipmjmblgjfaa
open Go.Lg
set_option maxHeartbeats 1600000
set_option maxRecDepth 10000
set_option linter.unusedVariables false
set_option linter.unusedSimpArgs false

/-- The relation in which nobody is related, among n numbers. -/
def empN (n : Int) : Nat := if 0 ≤ n ∧ n ≤ 40 then n.toNat else 0
def empR (k : Nat) : List (List Int) := List.replicate k []
theorem empN_le (n : Int) : empN n ≤ 40 := by unfold empN; split <;> omega
theorem empN_ok {n : Int} (h0 : 0 ≤ n) (h1 : n ≤ 40) : n = (empN n : Int) := by unfold empN; rw [if_pos ⟨h0, h1⟩]; omega
theorem empN_no {n : Int} (h : ¬ (0 ≤ n ∧ n ≤ 40)) : empN n = 0 := by unfold empN; rw [if_neg h]
theorem lineN_false (n : Nat) : lineN (List.replicate n false) = [] := by
  unfold lineN lineTo
  rw [List.map_eq_nil_iff, List.filter_eq_nil_iff]
  intro i hi
  simp [List.getD_eq_getElem?_getD, List.getElem?_replicate]
  split <;> simp
theorem blank_lines (n k : Nat) : (blank n k).map lineN = empR k := by
  unfold blank empR
  rw [List.map_replicate, lineN_false]
theorem listN_zero : listN 0 = [] := by decide

theorem isSize_ok {n : Int} (h : notB (leI 0 n && leI n 40) = false) : 0 ≤ n ∧ n ≤ 40 := by
  rw [notB_f, Bool.and_eq_true] at h
  exact ⟨leI_t.1 h.1, leI_t.1 h.2⟩
theorem isSize_no {n : Int} (h : notB (leI 0 n && leI n 40) = true) : ¬ (0 ≤ n ∧ n ≤ 40) := by
  rw [notB_t] at h
  rintro ⟨a, b⟩
  rw [leI_t.2 a, leI_t.2 b] at h
  cases h

theorem empR_flat (k : Nat) : tot (empR k) = 0 := by
  unfold empR
  induction k with
  | zero => rfl
  | succ k ih => rw [List.replicate_succ, tot_cons, ih]; rfl
theorem empR_mark (j : Int) : ∀ k : Nat, markRows j (empR k) = empR k := by
  intro k
  unfold empR
  induction k generalizing j with
  | zero => rfl
  | succ k ih => rw [List.replicate_succ]; simp only [markRows]; rw [ih]; rfl

end Go.Proofs.Ytpfipmjmblgjfaa