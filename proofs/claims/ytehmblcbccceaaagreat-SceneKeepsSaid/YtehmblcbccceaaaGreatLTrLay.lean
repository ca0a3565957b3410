import Derived.Shelf.SlicesE.Delete
import Derived.Test.YtehmblcbccceaaaGreatProg
namespace Go.Proofs.YtehmblcbccceaaaGreat
open Go.Shelf
def l_del_ren : Go.Shelf.Ren := ⟨fun | 45 => 178 | n => n,fun | 22 => 192 | 23 => 191 | 3 => 3 | 4 => 4 | 0 => 0 | n => n,fun | n => n⟩
theorem l_del : Go.Proofs.SlLaysE.n45 Tryz.prog l_del_ren := {
  mixed := by kernel_rfl
  f45 := ⟨Tryz.f178.name,by decide,Tryz.func178.trans (congrArg some (by kernel_rfl))⟩
  t0 := Tryz.underlying0
  a0 := Tryz.isAgg0
  z0 := Tryz.sizeOf0
  v0 := Tryz.zeroValue0
  t3 := Tryz.underlying3
  a3 := Tryz.isAgg3
  z3 := Tryz.sizeOf3
  v3 := Tryz.zeroValue3
  t4 := Tryz.underlying4
  a4 := Tryz.isAgg4
  z4 := Tryz.sizeOf4
  v4 := Tryz.zeroValue4
  t22 := Tryz.underlying192
  a22 := Tryz.isAgg192
  z22 := Tryz.sizeOf192
  v22 := Tryz.zeroValue192
  a23 := Tryz.isAgg191
  z23 := Tryz.sizeOf191 }
end Go.Proofs.YtehmblcbccceaaaGreat
