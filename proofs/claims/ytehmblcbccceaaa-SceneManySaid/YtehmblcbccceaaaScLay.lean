/-
  Contracts of functions of the library at this program: each an application of the library's own.
-/
import Derived.Shelf.SlMaps.Clone
import Derived.Test.YtehmblcbccceaaaProg
namespace Go.Proofs.Ytehmblcbccceaaa
open Go.Shelf
def l_mclone_ren : Go.Shelf.Ren := ⟨fun | 5 => 20 | 7 => 31 | n => n, fun | 23 => 58 | 25 => 3 | 3 => 68 | 4 => 4 | 20 => 20 | n => n, fun | n => n⟩
theorem l_mclone : Go.Proofs.SlLaysW.n5 Try.prog l_mclone_ren := {
  mixed := by kernel_rfl
  f5 := ⟨Try.f20.name, by decide, Try.func20.trans (congrArg some (by kernel_rfl))⟩
  f7 := Try.func31.trans (congrArg some (by kernel_rfl))
  t4 := Try.underlying4
  a4 := Try.isAgg4
  z4 := Try.sizeOf4
  v4 := Try.zeroValue4
  t20 := Try.underlying20
  a20 := Try.isAgg20
  z20 := Try.sizeOf20
  v20 := Try.zeroValue20
  t23 := Try.underlying58
  a23 := Try.isAgg58
  z23 := Try.sizeOf58
  v23 := Try.zeroValue58 }
end Go.Proofs.Ytehmblcbccceaaa
