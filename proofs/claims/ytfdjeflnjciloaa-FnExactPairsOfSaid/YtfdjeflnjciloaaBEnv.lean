/- The types of this seat's program, as the logic of values has them. -/
import Derived.Test.YtfdjeflnjciloaaRows
import Derived.Test.YtfdjeflnjciloaaBLgN
import Derived.KernelRfl
namespace Go.Proofs.Ytfdjeflnjciloaa
open Go.Lg
def tyL : List (Nat × TyI) :=
  [(3, ⟨.int .i64, 1, 8⟩),
   (4, ⟨.bool, 1, 1⟩),
   (5, ⟨.int .u8, 1, 1⟩),
   (9, ⟨.str, 1, 16⟩),
   (21, ⟨.int .i32, 1, 4⟩),
   (22, ⟨.slice 5, 1, 24⟩),
   (23, ⟨.slice 87, 1, 24⟩),
   (24, ⟨.slice 125, 1, 24⟩),
   (26, ⟨.struct [23, 24] [0, 1], 2, 48⟩),
   (29, ⟨.slice 3, 1, 24⟩),
   (35, ⟨.slice 29, 1, 24⟩),
   (37, ⟨.struct [3, 35] [0, 1], 2, 32⟩),
   (46, ⟨.slice 109, 1, 24⟩),
   (48, ⟨.slice 159, 1, 24⟩),
   (49, ⟨.slice 162, 1, 24⟩),
   (51, ⟨.struct [48, 49] [0, 1], 2, 48⟩),
   (59, ⟨.slice 9, 1, 24⟩),
   (69, ⟨.struct [3, 35] [0, 1], 2, 32⟩),
   (77, ⟨.slice 141, 1, 24⟩),
   (87, ⟨.struct [9, 3, 3, 3, 3, 3] [0, 1, 2, 3, 4, 5], 6, 56⟩),
   (95, ⟨.slice 100, 1, 24⟩),
   (99, ⟨.int .u64, 1, 8⟩),
   (100, ⟨.int .u64, 1, 8⟩),
   (106, ⟨.slice 139, 1, 24⟩),
   (109, ⟨.struct [3, 3] [0, 1], 2, 16⟩),
   (125, ⟨.struct [3, 3, 3, 3] [0, 1, 2, 3], 4, 32⟩),
   (139, ⟨.slice 4, 1, 24⟩),
   (141, ⟨.struct [3, 3] [0, 1], 2, 16⟩),
   (153, ⟨.struct [22, 3, 3] [0, 1, 2], 3, 40⟩),
   (159, ⟨.struct [9, 3, 3, 3, 3, 3] [0, 1, 2, 3, 4, 5], 6, 56⟩),
   (162, ⟨.struct [3, 3, 3, 3] [0, 1, 2, 3], 4, 32⟩),
   (174, ⟨.int .u64, 1, 8⟩),
   (185, ⟨.int .i64, 1, 8⟩),
   (192, ⟨.int .u32, 1, 4⟩),
   (196, ⟨.int .u64, 1, 8⟩)]
def zL : List (Nat × LV) :=
  [(3, (.int .i64 0)),
   (4, (.bool false)),
   (5, (.int .u8 0)),
   (9, (.str ⟨#[]⟩)),
   (21, (.int .i32 0)),
   (22, .nil),
   (23, .nil),
   (24, .nil),
   (26, (.st [.nil, .nil])),
   (29, .nil),
   (35, .nil),
   (37, (.st [(.int .i64 0), .nil])),
   (46, .nil),
   (48, .nil),
   (49, .nil),
   (51, (.st [.nil, .nil])),
   (59, .nil),
   (69, (.st [(.int .i64 0), .nil])),
   (77, .nil),
   (87, (.st [(.str ⟨#[]⟩), (.int .i64 0), (.int .i64 0), (.int .i64 0), (.int .i64 0), (.int .i64 0)])),
   (95, .nil),
   (99, (.int .u64 0)),
   (100, (.int .u64 0)),
   (106, .nil),
   (109, (.st [(.int .i64 0), (.int .i64 0)])),
   (125, (.st [(.int .i64 0), (.int .i64 0), (.int .i64 0), (.int .i64 0)])),
   (139, .nil),
   (141, (.st [(.int .i64 0), (.int .i64 0)])),
   (153, (.st [.nil, (.int .i64 0), (.int .i64 0)])),
   (159, (.st [(.str ⟨#[]⟩), (.int .i64 0), (.int .i64 0), (.int .i64 0), (.int .i64 0), (.int .i64 0)])),
   (162, (.st [(.int .i64 0), (.int .i64 0), (.int .i64 0), (.int .i64 0)])),
   (174, (.int .u64 0)),
   (185, (.int .i64 0)),
   (192, (.int .u32 0)),
   (196, (.int .u64 0))]
def cL : List (Nat × List (Nat × Nat)) :=
  [(87, [(9, 0), (3, 1), (3, 2), (3, 3), (3, 4), (3, 5)]),
   (109, [(3, 0), (3, 1)]),
   (125, [(3, 0), (3, 1), (3, 2), (3, 3)]),
   (141, [(3, 0), (3, 1)]),
   (159, [(9, 0), (3, 1), (3, 2), (3, 3), (3, 4), (3, 5)]),
   (162, [(3, 0), (3, 1), (3, 2), (3, 3)])]
noncomputable def env : Env := { P := Try.prog, T := lookT tyL, Z := lookT zL, C := lookT cL }
theorem tyL_ok : tyL.all (fun x => tyOKB Try.prog x.1 x.2) = true := by kernel_rfl
theorem zL_ok : zL.all (fun x => zOKB Try.prog x.1 x.2) = true := by kernel_rfl
theorem cL_ok : cL.all (fun x => cmpB Try.prog x.1 x.2) = true := by kernel_rfl
theorem env_ok : EnvOK env := ⟨TabOK_of tyL_ok, ZOK_of zL_ok, by kernel_rfl, COK_of cL_ok⟩
end Go.Proofs.Ytfdjeflnjciloaa
