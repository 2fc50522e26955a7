/- The types of this seat's program, as the logic of values has them. -/
import Derived.Test.YtciegilcimbmoaaRows
import Derived.Test.YtciegilcimbmoaaLgN
import Derived.KernelRfl
namespace Go.Proofs.Ytciegilcimbmoaa
open Go.Lg
def tyL : List (Nat × TyI) :=
  [(3, ⟨.int .i64, 1, 8⟩),
   (4, ⟨.bool, 1, 1⟩),
   (5, ⟨.int .u8, 1, 1⟩),
   (9, ⟨.str, 1, 16⟩),
   (21, ⟨.int .i32, 1, 4⟩),
   (23, ⟨.slice 106, 1, 24⟩),
   (24, ⟨.slice 110, 1, 24⟩),
   (26, ⟨.struct [23, 24] [0, 1], 2, 48⟩),
   (29, ⟨.slice 73, 1, 24⟩),
   (30, ⟨.slice 76, 1, 24⟩),
   (32, ⟨.struct [29, 30] [0, 1], 2, 48⟩),
   (42, ⟨.slice 3, 1, 24⟩),
   (50, ⟨.slice 9, 1, 24⟩),
   (60, ⟨.slice 5, 1, 24⟩),
   (73, ⟨.struct [9, 3, 3, 3, 3, 3] [0, 1, 2, 3, 4, 5], 6, 56⟩),
   (76, ⟨.struct [3, 3, 3, 3] [0, 1, 2, 3], 4, 32⟩),
   (106, ⟨.struct [9, 3, 3, 3, 3, 3] [0, 1, 2, 3, 4, 5], 6, 56⟩),
   (110, ⟨.struct [3, 3, 3, 3] [0, 1, 2, 3], 4, 32⟩),
   (120, ⟨.slice 4, 1, 24⟩),
   (128, ⟨.int .u64, 1, 8⟩),
   (135, ⟨.struct [60, 3, 3] [0, 1, 2], 3, 40⟩),
   (138, ⟨.int .i64, 1, 8⟩),
   (145, ⟨.int .u32, 1, 4⟩),
   (147, ⟨.int .u64, 1, 8⟩),
   (149, ⟨.int .u64, 1, 8⟩)]
def zL : List (Nat × LV) :=
  [(3, (.int .i64 0)),
   (4, (.bool false)),
   (5, (.int .u8 0)),
   (9, (.str ⟨#[]⟩)),
   (21, (.int .i32 0)),
   (23, .nil),
   (24, .nil),
   (26, (.st [.nil, .nil])),
   (29, .nil),
   (30, .nil),
   (32, (.st [.nil, .nil])),
   (42, .nil),
   (50, .nil),
   (60, .nil),
   (73, (.st [(.str ⟨#[]⟩), (.int .i64 0), (.int .i64 0), (.int .i64 0), (.int .i64 0), (.int .i64 0)])),
   (76, (.st [(.int .i64 0), (.int .i64 0), (.int .i64 0), (.int .i64 0)])),
   (106, (.st [(.str ⟨#[]⟩), (.int .i64 0), (.int .i64 0), (.int .i64 0), (.int .i64 0), (.int .i64 0)])),
   (110, (.st [(.int .i64 0), (.int .i64 0), (.int .i64 0), (.int .i64 0)])),
   (120, .nil),
   (128, (.int .u64 0)),
   (135, (.st [.nil, (.int .i64 0), (.int .i64 0)])),
   (138, (.int .i64 0)),
   (145, (.int .u32 0)),
   (147, (.int .u64 0)),
   (149, (.int .u64 0))]
def cL : List (Nat × List (Nat × Nat)) :=
  [(73, [(9, 0), (3, 1), (3, 2), (3, 3), (3, 4), (3, 5)]),
   (76, [(3, 0), (3, 1), (3, 2), (3, 3)]),
   (106, [(9, 0), (3, 1), (3, 2), (3, 3), (3, 4), (3, 5)]),
   (110, [(3, 0), (3, 1), (3, 2), (3, 3)])]
noncomputable def env : Env := ⟨Try.prog, lookT tyL, lookT zL, lookT cL⟩
theorem tyL_ok : tyL.all (fun x => tyOKB Try.prog x.1 x.2) = true := by kernel_rfl
theorem zL_ok : zL.all (fun x => zOKB Try.prog x.1 x.2) = true := by kernel_rfl
theorem cL_ok : cL.all (fun x => cmpB Try.prog x.1 x.2) = true := by kernel_rfl
theorem env_ok : EnvOK env := ⟨TabOK_of tyL_ok, ZOK_of zL_ok, by kernel_rfl, COK_of cL_ok⟩
end Go.Proofs.Ytciegilcimbmoaa
