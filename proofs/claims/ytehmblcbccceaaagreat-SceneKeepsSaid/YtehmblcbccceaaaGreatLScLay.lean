import Derived.Shelf.SlMaps.Clone
import Derived.Test.YtehmblcbccceaaaGreatProg
namespace Go.Proofs.YtehmblcbccceaaaGreat
open Go.Shelf
def l_mclone_ren : Go.Shelf.Ren := ⟨fun | 5 => 53 | 7 => 92 | n => n,fun | 23 => 112 | 25 => 3 | 3 => 128 | 4 => 4 | 20 => 20 | n => n,fun | n => n⟩
theorem l_mclone : Go.Proofs.SlLaysW.n5 Tryz.prog l_mclone_ren := {
  mixed := by kernel_rfl
  f5 := ⟨Tryz.f53.name,by decide,Tryz.func53.trans (congrArg some (by kernel_rfl))⟩
  f7 := Tryz.func92.trans (congrArg some (by kernel_rfl))
  t4 := Tryz.underlying4
  a4 := Tryz.isAgg4
  z4 := Tryz.sizeOf4
  v4 := Tryz.zeroValue4
  t20 := Tryz.underlying20
  a20 := Tryz.isAgg20
  z20 := Tryz.sizeOf20
  v20 := Tryz.zeroValue20
  t23 := Tryz.underlying112
  a23 := Tryz.isAgg112
  z23 := Tryz.sizeOf112
  v23 := Tryz.zeroValue112 }
end Go.Proofs.YtehmblcbccceaaaGreat
