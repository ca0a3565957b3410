import Derived.Shelf.SlicesE.Delete
import Derived.Test.YthpifjcddgmjnaaGreatProg
set_option maxHeartbeats 16000000
set_option maxRecDepth 100000
namespace Go.Proofs.YthpifjcddgmjnaaGreat
section
open Go.Shelf
def l_del_ren:Go.Shelf.Ren:=⟨fun | 45=>268 | n=>n,fun | 22=>217 | 23=>216 | 3=>3 | 4=>4 | 0=>0 | n=>n,fun | n=>n⟩
theorem l_del:Go.Proofs.SlLaysE.n45 Tryz.prog l_del_ren:={
 mixed:=by kernel_rfl
 f45:=⟨Tryz.f268.name,by decide,Tryz.func268.trans (congrArg some (by kernel_rfl))⟩
 t0:=Tryz.underlying0
 a0:=Tryz.isAgg0
 z0:=Tryz.sizeOf0
 v0:=Tryz.zeroValue0
 t3:=Tryz.underlying3
 a3:=Tryz.isAgg3
 z3:=Tryz.sizeOf3
 v3:=Tryz.zeroValue3
 t4:=Tryz.underlying4
 a4:=Tryz.isAgg4
 z4:=Tryz.sizeOf4
 v4:=Tryz.zeroValue4
 t22:=Tryz.underlying217
 a22:=Tryz.isAgg217
 z22:=Tryz.sizeOf217
 v22:=Tryz.zeroValue217
 a23:=Tryz.isAgg216
 z23:=Tryz.sizeOf216 }
end
end Go.Proofs.YthpifjcddgmjnaaGreat
