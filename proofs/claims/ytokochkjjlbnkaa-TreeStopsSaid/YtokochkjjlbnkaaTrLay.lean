/-
  Contracts of functions of the library at this program: each an application of the library's own.
-/
import Derived.Shelf.SlicesE.Delete
import Derived.Test.YtokochkjjlbnkaaProg
namespace Go.Proofs.Ytokochkjjlbnkaa
open Go.Shelf
def l_del_ren : Go.Shelf.Ren := ⟨fun | 45 => 63 | n => n, fun | 22 => 82 | 23 => 81 | 3 => 3 | 4 => 4 | 0 => 0 | n => n, fun | n => n⟩
theorem l_del : Go.Proofs.SlLaysE.n45 Try.prog l_del_ren := {
  mixed := by kernel_rfl
  f45 := ⟨Try.f63.name, by decide, Try.func63.trans (congrArg some (by kernel_rfl))⟩
  t0 := Try.underlying0
  a0 := Try.isAgg0
  z0 := Try.sizeOf0
  v0 := Try.zeroValue0
  t3 := Try.underlying3
  a3 := Try.isAgg3
  z3 := Try.sizeOf3
  v3 := Try.zeroValue3
  t4 := Try.underlying4
  a4 := Try.isAgg4
  z4 := Try.sizeOf4
  v4 := Try.zeroValue4
  t22 := Try.underlying82
  a22 := Try.isAgg82
  z22 := Try.sizeOf82
  v22 := Try.zeroValue82
  a23 := Try.isAgg81
  z23 := Try.sizeOf81 }
end Go.Proofs.Ytokochkjjlbnkaa
