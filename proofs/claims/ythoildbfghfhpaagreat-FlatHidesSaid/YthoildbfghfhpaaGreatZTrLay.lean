import Derived.Shelf.SlicesE.Delete
import Derived.Test.YthoildbfghfhpaaGreatProg
set_option maxHeartbeats 16000000
set_option maxRecDepth 100000
open Go.Proofs.Tryz
namespace Go.Proofs.YthoildbfghfhpaaGreat
section
open Go.Shelf
def l_del_ren:Go.Shelf.Ren:=⟨fun | 45=>174 | n=>n,fun | 22=>183 | 23=>182 | 3=>3 | 4=>4 | 0=>0 | n=>n,fun | n=>n⟩
theorem l_del:Go.Proofs.SlLaysE.n45 prog l_del_ren:={
 mixed:=by kernel_rfl
 f45:=⟨Tryz.f174.name,by decide,func174.trans (congrArg some (by kernel_rfl))⟩
 t0:=underlying0
 a0:=Tryz.isAgg0
 z0:=Tryz.sizeOf0
 v0:=Tryz.zeroValue0
 t3:=underlying3
 a3:=Tryz.isAgg3
 z3:=Tryz.sizeOf3
 v3:=Tryz.zeroValue3
 t4:=underlying4
 a4:=Tryz.isAgg4
 z4:=Tryz.sizeOf4
 v4:=Tryz.zeroValue4
 t22:=underlying183
 a22:=Tryz.isAgg183
 z22:=Tryz.sizeOf183
 v22:=Tryz.zeroValue183
 a23:=Tryz.isAgg182
 z23:=Tryz.sizeOf182 }
end
end Go.Proofs.YthoildbfghfhpaaGreat
