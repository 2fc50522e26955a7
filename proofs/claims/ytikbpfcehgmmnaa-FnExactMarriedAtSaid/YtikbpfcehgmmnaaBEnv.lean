/- The types of this seat's program, as the logic of values has them. -/
import Derived.Test.YtikbpfcehgmmnaaRows
import Derived.Test.YtikbpfcehgmmnaaBLgN
import Derived.KernelRfl
namespace Go.Proofs.Ytikbpfcehgmmnaa
open Go.Lg
def tyL : List (Nat × TyI) :=
  [(3, ⟨.int .i64, 1, 8⟩),
   (4, ⟨.bool, 1, 1⟩),
   (5, ⟨.int .u8, 1, 1⟩),
   (9, ⟨.str, 1, 16⟩),
   (21, ⟨.int .i32, 1, 4⟩),
   (22, ⟨.slice 5, 1, 24⟩),
   (23, ⟨.slice 68, 1, 24⟩),
   (24, ⟨.slice 82, 1, 24⟩),
   (26, ⟨.struct [23, 24] [0, 1], 2, 48⟩),
   (29, ⟨.slice 3, 1, 24⟩),
   (35, ⟨.slice 113, 1, 24⟩),
   (36, ⟨.slice 117, 1, 24⟩),
   (38, ⟨.struct [35, 36] [0, 1], 2, 48⟩),
   (55, ⟨.slice 9, 1, 24⟩),
   (68, ⟨.struct [9, 3, 3, 3, 3, 3] [0, 1, 2, 3, 4, 5], 6, 56⟩),
   (82, ⟨.struct [3, 3, 3, 3] [0, 1, 2, 3], 4, 32⟩),
   (113, ⟨.struct [9, 3, 3, 3, 3, 3] [0, 1, 2, 3, 4, 5], 6, 56⟩),
   (117, ⟨.struct [3, 3, 3, 3] [0, 1, 2, 3], 4, 32⟩),
   (124, ⟨.slice 4, 1, 24⟩),
   (131, ⟨.struct [22, 3, 3] [0, 1, 2], 3, 40⟩),
   (134, ⟨.int .u64, 1, 8⟩),
   (138, ⟨.int .i64, 1, 8⟩),
   (145, ⟨.int .u32, 1, 4⟩),
   (147, ⟨.int .u64, 1, 8⟩),
   (149, ⟨.int .u64, 1, 8⟩)]
def zL : List (Nat × LV) :=
  [(3, (.int .i64 0)),
   (4, (.bool false)),
   (5, (.int .u8 0)),
   (9, (.str ⟨#[]⟩)),
   (21, (.int .i32 0)),
   (22, .nil),
   (23, .nil),
   (24, .nil),
   (26, (.st [.nil, .nil])),
   (29, .nil),
   (35, .nil),
   (36, .nil),
   (38, (.st [.nil, .nil])),
   (55, .nil),
   (68, (.st [(.str ⟨#[]⟩), (.int .i64 0), (.int .i64 0), (.int .i64 0), (.int .i64 0), (.int .i64 0)])),
   (82, (.st [(.int .i64 0), (.int .i64 0), (.int .i64 0), (.int .i64 0)])),
   (113, (.st [(.str ⟨#[]⟩), (.int .i64 0), (.int .i64 0), (.int .i64 0), (.int .i64 0), (.int .i64 0)])),
   (117, (.st [(.int .i64 0), (.int .i64 0), (.int .i64 0), (.int .i64 0)])),
   (124, .nil),
   (131, (.st [.nil, (.int .i64 0), (.int .i64 0)])),
   (134, (.int .u64 0)),
   (138, (.int .i64 0)),
   (145, (.int .u32 0)),
   (147, (.int .u64 0)),
   (149, (.int .u64 0))]
def cL : List (Nat × List (Nat × Nat)) :=
  [(68, [(9, 0), (3, 1), (3, 2), (3, 3), (3, 4), (3, 5)]),
   (82, [(3, 0), (3, 1), (3, 2), (3, 3)]),
   (113, [(9, 0), (3, 1), (3, 2), (3, 3), (3, 4), (3, 5)]),
   (117, [(3, 0), (3, 1), (3, 2), (3, 3)])]
noncomputable def env : Env := { P := Try.prog, T := lookT tyL, Z := lookT zL, C := lookT cL }
theorem tyL_ok : tyL.all (fun x => tyOKB Try.prog x.1 x.2) = true := by kernel_rfl
theorem zL_ok : zL.all (fun x => zOKB Try.prog x.1 x.2) = true := by kernel_rfl
theorem cL_ok : cL.all (fun x => cmpB Try.prog x.1 x.2) = true := by kernel_rfl
theorem env_ok : EnvOK env := ⟨TabOK_of tyL_ok, ZOK_of zL_ok, by kernel_rfl, COK_of cL_ok⟩
end Go.Proofs.Ytikbpfcehgmmnaa
