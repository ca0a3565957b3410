/-
  Contracts of functions of the library at this program: each an application of the library's own.
-/
import Derived.Shelf.SlicesE.Delete
import Derived.Test.YtehmblcbccceaaaProg
namespace Go.Proofs.Ytehmblcbccceaaa
open Go.Shelf
def l_del_ren : Go.Shelf.Ren := ⟨fun | 45 => 74 | n => n, fun | 22 => 83 | 23 => 82 | 3 => 3 | 4 => 4 | 0 => 0 | n => n, fun | n => n⟩
theorem l_del : Go.Proofs.SlLaysE.n45 Try.prog l_del_ren := {
  mixed := by kernel_rfl
  f45 := ⟨Try.f74.name, by decide, Try.func74.trans (congrArg some (by kernel_rfl))⟩
  t0 := Try.underlying0
  a0 := Try.isAgg0
  z0 := Try.sizeOf0
  v0 := Try.zeroValue0
  t3 := Try.underlying3
  a3 := Try.isAgg3
  z3 := Try.sizeOf3
  v3 := Try.zeroValue3
  t4 := Try.underlying4
  a4 := Try.isAgg4
  z4 := Try.sizeOf4
  v4 := Try.zeroValue4
  t22 := Try.underlying83
  a22 := Try.isAgg83
  z22 := Try.sizeOf83
  v22 := Try.zeroValue83
  a23 := Try.isAgg82
  z23 := Try.sizeOf82 }
end Go.Proofs.Ytehmblcbccceaaa
